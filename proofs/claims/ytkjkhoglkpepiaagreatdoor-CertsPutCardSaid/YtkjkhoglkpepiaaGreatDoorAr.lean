/- The program's Put: the node of right extensions. The program's Get: right extensions of a node. -/
import Derived.Test.YtkjkhoglkpepiaaGreatDoorAq
import Derived.Test.YtkjkhoglkpepiaaGreatDoorAl
import Derived.Laws.EntriesVeiled
set_option maxRecDepth 100000
set_option maxHeartbeats 8000000
set_option linter.unusedVariables false
set_option linter.unusedSimpArgs false
namespace Go.Proofs.YtkjkhoglkpepiaaGreatDoor.nmc
open Go.RowKit tlvc tlvd ndc txc txm intc intm
def XPut (w:World)(r:Option Nd)(e:Ending)(w':World):Prop:=
  Below w.heap.size w w'∧match r with
  |none=>e=.returned (.tuple #[.agg #[.int .u8 0,.slice none 0 0,.slice none 0 0],.int .i64 101])
  |some n=>∃t A la ca K lk ck,e=.returned (.tuple #[.agg #[.int .u8 t,.slice A la ca,.slice K lk ck],.int .i64 0])∧NdC (fun g=>w.heap.size+2≤g) w' n (.int .u8 t) (.slice A la ca) (.slice K lk ck)
theorem box5 {W0 W:World}(h:Below W0.heap.size W0 W){g:Nat}{v0 v1 v2 v3 v4:Value}{T:TypeId}{fr:Nat × Nat}(hq:W0.heap[g]? =some (.cells #[v0,v1,v2,v3,v4] T fr)):W.cell? ⟨g,0,none⟩=some v0∧W.cell? ⟨g,1,none⟩=some v1∧W.cell? ⟨g,2,none⟩=some v2∧W.cell? ⟨g,3,none⟩=some v3∧W.cell? ⟨g,4,none⟩=some v4:=by
  have hq:=(h.block g (Array.getElem?_eq_some_iff.1 hq).1).trans hq
  exact⟨(ch_ hq _).trans rfl,(ch_ hq _).trans rfl,(ch_ hq _).trans rfl,(ch_ hq _).trans rfl,(ch_ hq _).trans rfl⟩
theorem says_all (B:Nat→Prop)(x:Ex)(q p:Nat)(c0 c1 c2 c3 c4 c5 c6 c7 c8:Value)(w:World)(hX:XB B w q p x c0 c1 c2 c3 c4 c5 c6 c7 c8)(hb:boundedX x=true)(hT:Tabs w): ∀i,i<5→Calls Tryz.prog (saysId i) #[.pointer (some ⟨q,0,none⟩)] w (NVal (fun g=>w.heap.size≤g) w (saysF x i)):=fun i hi=>by
  obtain⟨h1,h2,h3,h4,_⟩:=bounded_parts hb
  match i,hi with
  |0,_=>exact says0_any B x q p _ _ _ _ _ _ _ _ _ w hX
  |1,_=>exact says1_any B x q p _ _ _ _ _ _ _ _ _ w hX
  |2,_=>exact says2_any B x q p _ _ _ _ _ _ _ _ _ w hX h1
  |3,_=>exact says3_any B x q p _ _ _ _ _ _ _ _ _ w hX h2 hT
  |4,_=>exact says4_any B x q p _ _ _ _ _ _ _ _ _ w hX ⟨h3,h4⟩ hT
theorem says_ent: ∀i,i<5→Enters Tryz.prog (saysId i):=fun i hi=>by
  match i,hi with
  |0,_=>exact enters_of Tryz.func108 (by kernel_rfl) rfl
  |1,_=>exact enters_of Tryz.func114 (by kernel_rfl) rfl
  |2,_=>exact enters_of Tryz.func118 (by kernel_rfl) rfl
  |3,_=>exact enters_of Tryz.func125 (by kernel_rfl) rfl
  |4,_=>exact enters_of Tryz.func133 (by kernel_rfl) rfl
theorem ks5_drop {i:Nat}(hi:i<5):ks5.drop i=i::ks5.drop (i+1):=by
  match i,hi with
  |0,_=>rfl
  |1,_=>rfl
  |2,_=>rfl
  |3,_=>rfl
  |4,_=>rfl
theorem knownL_none {x:Ex}{i:Nat}{kn:List Nd}{R:Option (List Nd)}(hi:i<5)(h:(knownL x (ks5.drop i)).map (kn++ ·)=R)(ht:kthere x i=false):(knownL x (ks5.drop (i+1))).map (kn++ ·)=R:=by
  rw[ks5_drop hi] at h
  unfold knownL at h
  rwa[ht,if_neg (by decide)] at h
theorem knownL_no {x:Ex}{i:Nat}{kn:List Nd}{R:Option (List Nd)}{er:Int}(hi:i<5)(h:(knownL x (ks5.drop i)).map (kn++ ·)=R)(ht:kthere x i=true)(hw:writeF (saysF x i) 0=.no er):R=none:=by
  rw[ks5_drop hi] at h
  unfold knownL at h
  rw[ht,if_pos rfl,hw] at h
  exact h.symm
theorem knownL_yes {x:Ex}{i:Nat}{kn:List Nd}{R:Option (List Nd)}{b:List Int}(hi:i<5)(h:(knownL x (ks5.drop i)).map (kn++ ·)=R)(ht:kthere x i=true)(hw:writeF (saysF x i) 0=.ok b):(knownL x (ks5.drop (i+1))).map ((kn++[extF ⟨koid i,kcrit i,b⟩])++ ·)=R:=by
  rw[ks5_drop hi] at h
  unfold knownL at h
  rw[ht,if_pos rfl,hw] at h
  rw[←h]
  cases knownL x (ks5.drop (i+1))<;>simp
theorem odds_small {xs:List Od}: ∀{taken:List (List Int)},oddsX taken xs=true→∀o∈xs,o.body.length≤1024:=by
  induction xs with
  |nil=>intro _ _ o ho;simp at ho
  |cons y ys ih=>
   intro taken h o ho
   unfold oddsX at h
   simp only[Bool.and_eq_true,decide_eq_true_eq] at h
   rcases List.mem_cons.1 ho with rfl |ho
   · exact h.1.1.2
   · exact ih h.2 o ho
theorem putE_any (B:Nat→Prop)(x:Ex)(c0 c1 c2 c3 c4 c5 c6 c7 c8:Value)(w:World)(hx:ExC B w x c0 c1 c2 c3 c4 c5 c6 c7 c8)(hT:Tabs w):
    Calls Tryz.prog 24 #[.agg #[c0,c1,c2,c3,c4,c5,c6,c7,c8]] w (XPut w (putX x)):=by
  have hmf: ∀(fn:Fn) (first cap:Array Value) (w:World),(Instr.makeFunc fn first cap).run Tryz.prog w=.ok (.func fn first cap) w:=fun _ _ _ _=>rfl
  have hu:=hx.u16
  obtain⟨A4,k4,rfl,_⟩:=id hx.eku
  obtain⟨A5,k5,rfl,_⟩:=id hx.princs
  obtain⟨A6,k6,rfl,_⟩:=id hx.permit
  obtain⟨A7,k7,rfl,_⟩:=id hx.exclude
  obtain⟨A8,k8,rfl,o1,o2,o3⟩:=id hx.odd
  obtain⟨L4,hL4⟩:=nm_ (x.eku.length)
  obtain⟨L5,hL5⟩:=nm_ (x.princs.length)
  obtain⟨L6,hL6⟩:=nm_ (x.permit.length)
  obtain⟨L7,hL7⟩:=nm_ (x.exclude.length)
  obtain⟨L8,hL8⟩:=nm_ (x.odd.length)
  obtain⟨h0,hh0⟩:=nm_ (x.hasCA)
  obtain⟨ca,hca⟩:=nm_ (x.ca)
  obtain⟨pa,hpa⟩:=nm_ (x.path)
  obtain⟨us,hus⟩:=nm_ (x.usage)
  have z0:=hx.has
  have z1:=hx.ca
  have z2:=hx.path
  have z3:=hx.usage
  rw[hh0] at z0
  rw[hca] at z1
  rw[hpa] at z2
  rw[hus] at z3
  subst z0 z1 z2 z3
  rw[hL4,hL5,hL6,hL7,hL8] at hx⊢
  rw[hL8] at o1
  obtain⟨W0,hW0⟩:=nm_ ((w.alloc (.cells #[.bool h0,.bool ca,.int .i64 pa,.int .u16 us,.slice A4 L4 k4,.slice A5 L5 k5,.slice A6 L6 k6,.slice A7 L7 k7,.slice A8 L8 k8] 30)).alloc (.cells #[.int .u8 0,.slice none 0 0,.slice none 0 0] 43))
  have hb0:Below w.heap.size w W0:=by rw[←hW0];exact(below_new _ _).alloc (by simp) _
  have hz0:W0.heap.size=w.heap.size+2:=by rw[←hW0];simp
  have q0:W0.heap[w.heap.size]? =some (.cells #[.bool h0,.bool ca,.int .i64 pa,.int .u16 us,.slice A4 L4 k4,.slice A5 L5 k5,.slice A6 L6 k6,.slice A7 L7 k7,.slice A8 L8 k8] 30):=by rw[←hW0,heap_old_ _ _ (by simp)];exact heap_new_ _ _
  have p0:W0.heap[w.heap.size+1]? =some (.cells #[.int .u8 0,.slice none 0 0,.slice none 0 0] 43):=by rw[←hW0];exact heap_is (by simp)
  obtain⟨R,hR⟩:=nm_ (putX x)
  rw[hR]
  have HX0:=hd_ (hx.below hb0)
  have HZ:=hd_ (ai_ hb0 (ai_ p0 (ai_ q0 hz0)))
  have HT:=hd_ (hT.below hb0)
  have HB:=hd_ (bounded_any B x _ _ _ _ _ _ _ _ _ W0 HX0.out)
  have HO:=hd_ (ai_ o1 (ai_ o2 (ai_ o3 (ai_ hL8 hu))))
  have HW:=hd_ hR
  obtain⟨d0,d1,d2,d3,d4,d5,d6,d7,d8⟩:=box9 (br_ _ W0) q0
  obtain⟨bb,hbb⟩:=nm_ (boundedX x)
  rw[hbb] at HB
  have HBB:=hd_ hbb
  clear hb0 hz0 q0 p0 hR hbb hT hu o1 o2 o3 hL4 hL5 hL6 hL7 hL8 hh0 hca hpa hus hx
  cases bb
  · have hRn:R=none:=by rw[←HW.out];unfold putX;rw[HBB.out];rfl
    subst hRn
    go_enter Tryz.func24,Tryz.ntmps24
    go_wp2_with fail
    refine HB.out.mono ?_
    rintro e w1 ⟨rfl,hb1⟩
    have pE:=(hb1.block _ (Array.getElem?_eq_some_iff.1 HZ.out.2.1).1).trans HZ.out.2.1
    obtain⟨r0,r1,r2,hBe⟩:=res3 (b:=w.heap.size+1) (y0:=.int .u8 0) (y1:=.slice none 0 0) (y2:=.slice none 0 0) (by omega) (below_then HZ.out.1 hb1 (lr_ _)) pE
    have f0:=fh_ pE 0
    have s0:=(ch_ pE 0).trans rfl
    have f1:=fh_ pE 1
    have s1:=(ch_ pE 1).trans rfl
    have f2:=fh_ pE 2
    have s2:=(ch_ pE 2).trans rfl
    have HE:=hd_ hBe
    clear hBe pE hb1 HB HO HZ HW HBB HX0 HT d0 d1 d2 d3 d4 d5 d6 d7 d8
    go_wp2_with fail
    refine bodyPost_ret (v:=.tuple #[.agg #[.int .u8 0,.slice none 0 0,.slice none 0 0],.int .i64 101]) ?_ rfl ⟨HE.out,rfl⟩
    simp[results,Tryz.results24,go_sem,r0,r1,r2]
  · have HOR:=hd_ (fun(W:World) (hW:Below W0.heap.size W0 W)=>fun(h16:L8≤16)=>oddsRight_any B A8 L8 k8 x.odd W HO.out.2.2.2.1 (HO.out.2.2.1.below (below_then HZ.out.1 hW (lr_ _))) HO.out.1 HO.out.2.1 h16)
    have h16:L8≤16:=by have:=(bounded_parts HBB.out).2.2.2.2.1;rw[HO.out.2.2.2.1] at this;exact this
    have H16:=hd_ h16
    obtain⟨ob,hob⟩:=nm_ (oddsX knownOids x.odd)
    rw[hob] at HOR
    have HOB:=hd_ hob
    clear hob h16
    go_enter Tryz.func24,Tryz.ntmps24
    go_wp2_with fail
    refine HB.out.mono ?_
    rintro e w1 ⟨rfl,hb1⟩
    have d8':=cell_on hb1 d8
    have HB1:=hd_ hb1
    have HC:=hd_ (HOR.out w1 hb1 H16.out)
    clear hb1 d0 d1 d2 d3 d4 d5 d6 d7 d8
    go_wp2_with fail
    refine HC.out.mono ?_
    rintro e w2 ⟨rfl,hb2⟩
    cases ob
    · have hRn:R=none:=by rw[←HW.out];unfold putX;rw[HBB.out,HOB.out];rfl
      subst hRn
      have hb12:=below_then HB1.out hb2 (lr_ _)
      have pE:=(hb12.block _ (Array.getElem?_eq_some_iff.1 HZ.out.2.1).1).trans HZ.out.2.1
      obtain⟨r0,r1,r2,hBe⟩:=res3 (b:=w.heap.size+1) (y0:=.int .u8 0) (y1:=.slice none 0 0) (y2:=.slice none 0 0) (by omega) (below_then HZ.out.1 hb12 (lr_ _)) pE
      have f0:=fh_ pE 0
      have s0:=(ch_ pE 0).trans rfl
      have f1:=fh_ pE 1
      have s1:=(ch_ pE 1).trans rfl
      have f2:=fh_ pE 2
      have s2:=(ch_ pE 2).trans rfl
      have HE:=hd_ hBe
      clear hBe pE hb12 hb2 HB1 HC HOR HB HO HZ HW HBB HX0 HT HOB H16 d8'
      go_wp2_with fail
      refine bodyPost_ret (v:=.tuple #[.agg #[.int .u8 0,.slice none 0 0,.slice none 0 0],.int .i64 101]) ?_ rfl ⟨HE.out,rfl⟩
      simp[results,Tryz.results24,go_sem,r0,r1,r2]
    · have hRs:(knownL x ks5).map (fun l=>.mk 48 [] (l++x.odd.map extF))=R:=by rw[←HW.out];unfold putX;rw[HBB.out,HOB.out];rfl
      obtain⟨RL,hRL⟩:=nm_ (knownL x ks5)
      rw[hRL] at hRs
      have hkl:(knownL x (ks5.drop 0)).map (([]:List Nd)++ ·)=RL:=by
        rw[show ks5.drop 0=ks5 from rfl,hRL]
        cases RL<;>simp
      have HRS:=hd_ (ai_ hRs hkl)
      have hb12:=below_then HB1.out hb2 (lr_ _)
      have q2:=(hb12.block _ (Array.getElem?_eq_some_iff.1 HZ.out.2.2.1).1).trans HZ.out.2.2.1
      have HKI:=hd_ (kinds_any B x w.heap.size _ _ _ _ _ _ _ _ _ w2 q2 (HX0.out.below hb12))
      have HB2:=hd_ hb12
      clear hRs hkl hRL hb12 hb2 q2 HB1 HC HOR HB HW d8'
      go_wp2_with fail
      refine HKI.out.mono ?_
      rintro e w3 ⟨hb3,G,q,rfl,hK⟩
      have hb23:=below_then HB2.out hb3 (lr_ _)
      have HB3:=hd_ hb23
      have HK:=hd_ hK
      clear hb3 hb23 hK HKI HB2
      go_wp2_with fail
      go_loopg [4,21] 6 (fun gk s4 s21 wx=>∃(i kl:Nat) (Av:Option Addr) (cv:Nat) (kn:List Nd),s4=.slice Av kl cv∧s21=.int .i64 i∧i≤5∧5 - i<gk∧Hid ((kn.length=kl∧kl≤i)∧(knownL x (ks5.drop i)).map (kn++ ·)=RL∧LInv ndE 43 (fun g=>w.heap.size+2≤g) w3 (.slice Av kl cv) kn wx))
      case atStart=>exact⟨0,0,none,0,[],rfl,rfl,by omega,by omega,hd_ ⟨⟨rfl,lr_ _⟩,HRS.out.2,LInv.start⟩⟩
      case round=>
        obtain⟨i,kl,Av,cv,kn,rfl,rfl,hi,hgk,HI⟩:=hrel
        have hYY: ∀g,w3.heap.size≤g→w.heap.size+2≤g:=fun g hg=>by
          have h1:=HB3.out.size
          have h2:=HZ.out.2.2.2
          omega
        have HY:=hd_ hYY
        clear hYY
        by_cases hlt:i<5
        · have hltz:(i:Int)<5:=by omega
          obtain⟨gk',rfl⟩: ∃g',gk=g'+1:=⟨gk - 1,by omega⟩
          have HN:=hd_ (ai_ (show i+1≤5 from hlt) (ai_ (show 5 - (i+1)<gk' by omega) hlt))
          obtain⟨A1,k1,hin,e0,e1,e2,e3,e4⟩:=(HK.out.below HI.out.2.2.bel).row i hlt
          obtain⟨th,hth⟩:=nm_ (kthere x i)
          rw[hth] at e2
          have HTH:=hd_ hth
          have hbx:=below_new wr (.cells #[.slice A1 4 k1,.bool (kcrit i),.bool th,.func (.func (saysId i)) #[] #[.pointer (some ⟨q,0,none⟩)],.func (.func (readId i)) #[] #[.pointer (some ⟨q,0,none⟩)]] 99)
          have hqx:=heap_new_ wr (.cells #[.slice A1 4 k1,.bool (kcrit i),.bool th,.func (.func (saysId i)) #[] #[.pointer (some ⟨q,0,none⟩)],.func (.func (readId i)) #[] #[.pointer (some ⟨q,0,none⟩)]] 99)
          have HIN:=hd_ (hin.below hbx)
          cases th
          · have HF:=hd_ (show(kn.length=kl∧kl≤i+1)∧(knownL x (ks5.drop (i+1))).map (kn++ ·)=RL∧LInv ndE 43 (fun g=>w.heap.size+2≤g) w3 (.slice Av kl cv) kn _ from⟨⟨HI.out.1.1,by have:=HI.out.1.2;omega⟩,knownL_none hlt HI.out.2.1 HTH.out,HI.out.2.2.below HY.out hbx⟩)
            clear hin hbx hqx hgk HI hth HIN
            go_wp2
            go_roundg gk'
            case measure=>omega
            case rel=>exact⟨i+1,kl,Av,cv,kn,rfl,by go_num,HN.out.1,HN.out.2.1,HF⟩
          · have HBX:=hd_ (ai_ hbx hqx)
            have hbw:=below_then HB3.out (below_then HI.out.2.2.bel hbx (lr_ _)) (lr_ _)
            have hXB:XB B _ q w.heap.size x _ _ _ _ _ _ _ _ _:=⟨((below_then HI.out.2.2.bel hbx (lr_ _)).block _ (Array.getElem?_eq_some_iff.1 HK.out.box).1).trans HK.out.box,(hbw.block _ (Array.getElem?_eq_some_iff.1 HZ.out.2.2.1).1).trans HZ.out.2.2.1,HX0.out.below hbw⟩
            have HS:=hd_ (says_all B x q w.heap.size _ _ _ _ _ _ _ _ _ _ hXB HBB.out (HT.out.below hbw) i hlt)
            have hent: ∀args w,(callFunc (saysId i) args).run Tryz.prog w=.ok (.enter (saysId i) args) w:=fun args w=>says_ent i hlt args w
            have HBW:=hd_ hbw
            obtain⟨sid,hsid⟩:=nm_ (saysId i)
            rw[hsid] at HS hent e3 HBX HIN HBW
            clear hin hbx hqx hgk hbw hXB hth hsid
            go_wp2_with fail
            refine HS.out.mono ?_
            rintro e w4 ⟨hb4,t4,B4,l4,j4,K4,m4,n4,rfl,hn4⟩
            have hbw4:=below_then HBW.out hb4 (lr_ _)
            have hprn:=print_any (saysF x i) _ _ w4 ⟨_,_,_,rfl,hn4⟩ (HT.out.below hbw4)
            obtain⟨r,hr⟩:=nm_ (writeF (saysF x i) 0)
            rw[hr] at hprn
            have HP:=hd_ hprn
            have HR:=hd_ hr
            have HB4:=hd_ (ai_ hb4 hbw4)
            clear hb4 hbw4 hprn hr hn4 HS e0 e1 e2 e3 e4 hent
            go_wp2_with fail
            refine HP.out.mono ?_
            rintro e w5 ⟨hb5,hpost⟩
            have hbw5:=below_then HB4.out.2 hb5 (lr_ _)
            cases r with
            |no er=>
             have hne:=errW_ne _ _ _ _ (lr_ _) HR.out
             have hRL:=knownL_no HN.out.2.2 HI.out.2.1 HTH.out HR.out
             subst hRL
             have hRn:R=none:=by rw[←HRS.out.1];rfl
             subst hRn
             obtain rfl:=hpost
             have pE:=(hbw5.block _ (Array.getElem?_eq_some_iff.1 HZ.out.2.1).1).trans HZ.out.2.1
             obtain⟨r0,r1,r2,hBe⟩:=res3 (b:=w.heap.size+1) (y0:=.int .u8 0) (y1:=.slice none 0 0) (y2:=.slice none 0 0) (by omega) (below_then HZ.out.1 hbw5 (lr_ _)) pE
             have f0:=fh_ pE 0
             have s0:=(ch_ pE 0).trans rfl
             have f1:=fh_ pE 1
             have s1:=(ch_ pE 1).trans rfl
             have f2:=fh_ pE 2
             have s2:=(ch_ pE 2).trans rfl
             have HE:=hd_ hBe
             clear hBe pE hb5 hbw5 HP HR HB4 HBW HBX HIN HTH HI HN
             go_wp2
             refine bodyPost_ret (v:=.tuple #[.agg #[.int .u8 0,.slice none 0 0,.slice none 0 0],.int .i64 101]) ?_ rfl ⟨HE.out,rfl⟩
             simp[results,Tryz.results24,go_sem,r0,r1,r2]
            |ok b=>
             obtain⟨A6,c6,rfl,hbys,⟨hb61,hb62⟩,hb63⟩:=hpost
             have hblen:b.length≤65535:=by
               rcases says_ways HBB.out HO.out.2.2.2.2 i HN.out.2.2 with ⟨_,b',h,hl⟩ | ⟨_,e',h⟩
               · rw[HR.out] at h;cases h;exact hl
               · rw[HR.out] at h;cases h
             have hbox5:=below_then HB4.out.1 hb5 (lr_ _)
             have hin5:=(HIN.out.below hbox5).mono (S':=fun _=>True) (fun _ _=>trivial)
             obtain⟨u0,u1,_,_,_⟩:=box5 (br_ _ w5) ((hbox5.block _ (Array.getElem?_eq_some_iff.1 HBX.out.2).1).trans HBX.out.2)
             have hext:=extension_any (fun _=>True) ⟨koid i,kcrit i,b⟩ _ _ _ w5 ⟨hin5,rfl,A6,b.length,c6,rfl,hb61,hb62,hbys,fun _ _ _ _ _=>trivial⟩ (by show b.length≤_;omega)
             have hnx:=knownL_yes HN.out.2.2 HI.out.2.1 HTH.out HR.out
             obtain⟨ek,hek⟩:=nm_ (extF ⟨koid i,kcrit i,b⟩)
             rw[hek] at hext hnx
             obtain⟨lb,hlb⟩:=nm_ (b.length)
             obtain⟨kc,hkc⟩:=nm_ (kcrit i)
             rw[hlb,hkc] at hext
             rw[hkc] at u1
             rw[hlb]
             have HE:=hd_ hext
             have HNX:=hd_ hnx
             have HB5:=hd_ (ai_ (below_then HBX.out.1 hbox5 (lr_ _)) hbw5)
             clear hb5 hbw5 hbys hb61 hb62 hb63 hblen hbox5 hin5 hext hnx hek hlb hkc HB4 HP HIN HBW HBX
             go_wp2_with fail
             refine HE.out.mono ?_
             rintro e w6 ⟨hb6,t7,B7,l7,j7,K7,m7,n7,rfl,hn7⟩
             have hb56:=below_then HB5.out.1 hb6 (lr_ _)
             have hkl:=HI.out.1.1
             have hkl5:=HI.out.1.2
             have hs3:=HI.out.2.2.bel.size
             obtain⟨A7,c7,w7,hrun,hI7⟩:=HI.out.2.2.push Tryz.infN HY.out (below_then hb56 (below_new w6 (.cells #[.int .u8 t7,.slice B7 l7 j7,.slice K7 m7 n7] 43)) (lr_ _)) (x:=ek) (news:=[.int .u8 t7,.slice B7 l7 j7,.slice K7 m7 n7]) (⟨_,_,_,rfl,NdC.mono (fun g (hg:w5.heap.size≤g)=>(⟨by have h1:=HB5.out.1.size;have h2:=HY.out g (by omega);exact h2,.inr (Nat.le_trans HB5.out.1.size hg)⟩:w.heap.size+2≤g∧(g<w3.heap.size∨wr.heap.size≤g))) _ _ _ _ (NdC.below (below_new _ _) _ _ _ _ hn7)⟩) (g1:=w6.heap.size) hb56.size (heap_new_ _ _) (fun j u hu=>by
               simpa using hu) (by rw[hkl];have:=HN.out.1;omega) (by rw[hkl];have:=HN.out.1;unfold maxLen;omega)
             rw[hkl] at hrun hI7
             have HF:=hd_ (show((kn++[ek]).length=kl+1∧kl+1≤i+1)∧(knownL x (ks5.drop (i+1))).map ((kn++[ek])++ ·)=RL∧LInv ndE 43 (fun g=>w.heap.size+2≤g) w3 (.slice A7 (kl+1) c7) (kn++[ek]) w7 from⟨⟨by rw[List.length_append,hkl];rfl,by omega⟩,HNX.out,hI7⟩)
             clear hb56 hb6 hI7 hn7 hkl hkl5 hs3 HI HE HNX HB5 u0 u1
             go_wp2_with (at_builtin;refine wpl_append rfl (.tmp 38) (.tmp 46) 41 rfl _ _ _ rfl rfl hrun ?_)
             clear hrun
             go_wp2
             go_roundg gk'
             case measure=>omega
             case rel=>exact⟨i+1,kl+1,A7,c7,_,rfl,by go_num,HN.out.1,HN.out.2.1,HF⟩
        · obtain rfl:i=5:=by omega
          have hltz: ¬(5:Int)<5:=by omega
          obtain⟨h51,h52,h53⟩:=HI.out
          have hRL:some kn=RL:=by rw[←h52];show some kn=some (kn++[]);rw[List.append_nil]
          subst hRL
          have hRn:some (Nd.mk 48 [] (kn++x.odd.map extF))=R:=HRS.out.1
          subst hRn
          obtain⟨A2,c2,e2,g1,g2,hLn⟩:=h53.row.lst HY.out
          rw[h51.1] at e2 g1
          simp only[Value.slice.injEq] at e2
          obtain⟨rfl,_,rfl⟩:=e2
          have hbw:=below_then HB3.out h53.bel (lr_ _)
          have hqr:=(hbw.block _ (Array.getElem?_eq_some_iff.1 HZ.out.2.2.1).1).trans HZ.out.2.2.1
          obtain⟨_,_,_,_,_,_,_,_,d8⟩:=box9 (br_ _ wr) hqr
          have hbwr:=below_then HZ.out.1 hbw (lr_ _)
          have hsmall:=odds_small HOB.out
          have hea:=eachOdN B extF 57 A8 L8 k8 x.odd wr HO.out.2.2.2.1 (HO.out.2.2.1.below hbwr) HO.out.1 HO.out.2.1 (by have:=H16.out;omega) (enters_of Tryz.func57 (by kernel_rfl) rfl)
            (fun o ho W _ c0 c1 c2 hh=>by
              obtain⟨_,_,_,e,hh⟩:=hh
              simp only[List.cons.injEq,and_true] at e
              obtain⟨rfl,rfl,rfl⟩:=e
              exact extension_any B o c0 c1 c2 W hh (by have:=hsmall o ho;omega))
          have hom:(x.odd.map extF).length=L8:=by rw[List.length_map];exact HO.out.2.2.2.1
          obtain⟨om,hom0⟩:=nm_ (x.odd.map extF)
          rw[hom0] at hea hom⊢
          have HE:=hd_ hea
          have HM:=hd_ hom0
          have HL:=hd_ (ai_ h51 (ai_ hLn (ai_ g1 (ai_ g2 (ai_ hbw (ai_ hbwr hom))))))
          clear h51 h52 h53 hLn g1 g2 hbw hqr hbwr hsmall hea hom hom0 hgk HI
          go_wp2_with fail
          refine HE.out.mono ?_
          rintro e w4 ⟨hb4,A9,c9,rfl,o1,o2,o3⟩
          have hol:=HL.out.2.2.2.2.2.2
          rw[hol] at o1⊢
          have hkl:=HL.out.1.1
          have hb4n:=below_new w4 (.cells #[.slice Av kl cv,.slice A9 L8 c9] 41)
          have hq4:=heap_new_ w4 (.cells #[.slice Av kl cv,.slice A9 L8 c9] 41)
          have hbn:=below_then hb4 hb4n (lr_ _)
          have hrs:=HL.out.2.2.2.2.2.1.size
          have hzs:=HZ.out.2.2.2
          have hw0r:=HL.out.2.2.2.2.1.size
          have hj:=joined_any (fun g=>w.heap.size+2≤g) 48 (some ⟨w4.heap.size,0,none⟩) 2 2 [kn,om] (w4.alloc (.cells #[.slice Av kl cv,.slice A9 L8 c9] 41)) (by decide) (fun g hg=>by have h1:=hbn.size;omega) rfl
            (lst_all hq4 rfl (by have h1:=hb4.size;omega) (all_two ⟨Av,cv,by rw[hkl],by rw[hkl];exact HL.out.2.2.1,HL.out.2.2.2.1,HL.out.2.1.below hbn⟩ ⟨A9,c9,by rw[hol],by rw[hol];exact o1,o2,(o3.on hb4n.size (fun g _ hg=>hb4n.block g hg) (fun g hg _=>by omega))⟩)) (lr_ _) (by unfold maxLen;decide) (by decide) (by rw[flat2,List.length_append,hkl,hol];have h1:=HL.out.1.2;have h2:=H16.out;omega)
          rw[flat2] at hj
          have HJ:=hd_ hj
          have HB4:=hd_ (below_then HL.out.2.2.2.2.1 hbn (lr_ _))
          clear hb4 hb4n hq4 hbn hj o1 o2 o3 hol hkl hrs hzs hw0r HE HL d8
          go_wp2_with fail
          refine HJ.out.mono ?_
          rintro e w5 ⟨hb5,t7,B7,l7,j7,K7,m7,n7,rfl,hn7⟩
          have hbw5:=below_then HB4.out hb5 (lr_ _)
          have pE:=(hbw5.block _ (Array.getElem?_eq_some_iff.1 HZ.out.2.1).1).trans HZ.out.2.1
          obtain⟨r0,r1,r2,hBe⟩:=res3 (b:=w.heap.size+1) (y0:=.int .u8 t7) (y1:=.slice B7 l7 j7) (y2:=.slice K7 m7 n7) (by omega) (below_then HZ.out.1 hbw5 (lr_ _)) pE
          have hn8:=res3_nd (b:=w.heap.size+1) (y0:=.int .u8 t7) (y1:=.slice B7 l7 j7) (y2:=.slice K7 m7 n7) (fun g hg=>by omega) hn7
          have f0:=fh_ pE 0
          have s0:=(ch_ pE 0).trans rfl
          have f1:=fh_ pE 1
          have s1:=(ch_ pE 1).trans rfl
          have f2:=fh_ pE 2
          have s2:=(ch_ pE 2).trans rfl
          have HE:=hd_ (ai_ hBe hn8)
          clear hBe hn8 pE hn7 hb5 hbw5 HJ HB4
          go_wp2
          refine bodyPost_ret (v:=.tuple #[.agg #[.int .u8 t7,.slice B7 l7 j7,.slice K7 m7 n7],.int .i64 0]) ?_ rfl ⟨HE.out.1,_,_,_,_,_,_,_,rfl,by rw[HM.out];exact HE.out.2⟩
          simp[results,Tryz.results24,go_sem,r0,r1,r2]
end Go.Proofs.YtkjkhoglkpepiaaGreatDoor.nmc
set_option linter.unusedVariables false
set_option linter.unusedSimpArgs false
namespace Go.Proofs.YtkjkhoglkpepiaaGreatDoor.nmc
open Go.RowKit tlvc tlvd ndc txc txm intc intm
theorem exC_shape {S:Nat→Prop}{w:World}{x:Ex}{c0 c1 c2 c3 c4 c5 c6 c7 c8:Value}(h:ExC S w x c0 c1 c2 c3 c4 c5 c6 c7 c8): ∃q0 q1 q2 q3 B4 q4 j4 B5 q5 j5 B6 q6 j6 B7 q7 j7 B8 q8 j8,c0=.bool q0∧c1=.bool q1∧c2=.int .i64 q2∧c3=.int .u16 q3∧c4=.slice B4 q4 j4∧c5=.slice B5 q5 j5∧c6=.slice B6 q6 j6∧c7=.slice B7 q7 j7∧c8=.slice B8 q8 j8:=by
 obtain⟨B4,j4,z4,_⟩:=id h.eku
 obtain⟨B5,j5,z5,_⟩:=id h.princs
 obtain⟨B6,j6,z6,_⟩:=id h.permit
 obtain⟨B7,j7,z7,_⟩:=id h.exclude
 obtain⟨B8,j8,z8,_⟩:=id h.odd
 exact⟨_,_,_,_,_,_,_,_,_,_,_,_,_,_,_,_,_,_,_,h.has,h.ca,h.path,h.usage,z4,z5,z6,z7,z8⟩
end Go.Proofs.YtkjkhoglkpepiaaGreatDoor.nmc
