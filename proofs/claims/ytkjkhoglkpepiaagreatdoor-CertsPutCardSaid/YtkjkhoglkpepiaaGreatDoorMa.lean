/- The document's parts of certificates: nodes of times and han The document's Right of a certificate. -/
import Derived.Test.YtkjkhoglkpepiaaGreatDoorQc
import Derived.Test.YtkjkhoglkpepiaaGreatDoorXh
import Derived.Test.YtkjkhoglkpepiaaGreatDoorYd
import Derived.Test.YtkjkhoglkpepiaaGreatDoorPc
import Derived.Test.YtkjkhoglkpepiaaGreatDoorBa
import Derived.Test.YtkjkhoglkpepiaaGreatDoorBd
import Derived.Test.YtkjkhoglkpepiaaGreatDoorBb
import Derived.Test.YtkjkhoglkpepiaaGreatDoorQd
set_option maxRecDepth 100000
set_option maxHeartbeats 16000000
set_option linter.unusedVariables false
set_option linter.unusedSimpArgs false
namespace Go.Proofs.YtkjkhoglkpepiaaGreatDoor.vtc
open Go.RowKit tlvc tlvd ndc txc txm intc intm nmc
theorem app_longz (w:World)(base:Nat)(v:Value)(n:Nat)(cs:List Value)(hown:w.ownsRow base 5 1 v n cs)(A:Option Addr)(m c:Nat)(ys:List Int)(hb:Bys w A m ys)(hn:n+m≤140737488355328)(hbase:base≤w.heap.size):
    ∃v' w',(Builtin.append_ #[34,34] 34 #[v,.slice A m c]).run Tryz.prog w=.ok v' w'∧w'.ownsRow base 5 1 v' (n+m) (cs++vals ys)∧w.grownBy w' v.ownBlock∧(v'.ownBlock=v.ownBlock∨ ∃g',v'.ownBlock=some g'∧w.heap.size≤g'):=by
  obtain⟨i0,hi,hz0,hz1,hz2⟩:=info_parts intc.Tryz.info5
  rcases A with _ |ad
  · have hm:m=0:=by
      rcases Nat.eq_zero_or_pos m with h0 |h0
      · exact h0
      · obtain⟨b,off,h,_⟩:=hb.2.2 h0
        cases h
    subst hm
    have hn:ys=[]:=List.eq_nil_of_length_eq_zero hb.1
    subst hn
    exact⟨v,w,run_app_nil w base 34 34 5 i0 Tryz.underlying34 hi v n cs hown c,by simpa[vals] using hown,World.grownBy.refl w _,.inl rfl⟩
  · obtain⟨v',w',h1,h2,h3,_,h5⟩:=app_gen (P:=Tryz.prog) w base 34 34 5 i0 (.int .u8 0) 1 1 Tryz.underlying34 hi hz0 hz1 hz2 rfl (by decide) v n cs hown ad m c (vals ys) (by rw[vals_length,hb.1];omega)
      (fun j u hu=>by
        have hj:j<ys.length:=by
          have:=(List.getElem?_eq_some_iff.1 hu).1
          rwa[vals_length] at this
        obtain⟨b,off,h,_,hc⟩:=hb.2.2 (by have:=hb.1;omega)
        cases h
        rw[Addr.add_lit,hc j (by have:=hb.1;omega),←hu]
        simp[vals,List.getD_eq_getElem?_getD,List.getElem?_eq_getElem hj]) (vals_one ys) (by unfold maxLen;omega) (by omega) hbase
    exact⟨v',w',h1,h2,h3,h5⟩
theorem app_one (w:World)(base:Nat)(v:Value)(n:Nat)(cs:List Value)(hown:w.ownsRow base 5 1 v n cs)(b:Int)(hb:0≤b∧b≤255)(hn:n+1≤140737488355328)(hbase:base≤w.heap.size):
    ∃v' w',(Builtin.append_ #[34,34] 34 #[v,.slice (some ⟨w.heap.size,0,none⟩) 1 1]).run Tryz.prog (w.alloc (.cells #[.int .u8 b] 5))=.ok v' w'∧w'.ownsRow base 5 1 v' (n+1) (cs++vals [b])∧Below base w w':=by
  have hnew:=heap_new_ w (.cells #[.int .u8 b] 5)
  have hby:Bys (w.alloc (.cells #[.int .u8 b] 5)) (some ⟨w.heap.size,0,none⟩) 1 [b]:=⟨rfl,fun x hx=>by rw[List.mem_singleton.1 hx];omega,fun _=>⟨w.heap.size,0,rfl,by simp,fun j hj=>by
    obtain rfl:j=0:=by omega
    rw[ch_ hnew]
    rfl⟩⟩
  obtain⟨v',w',h1,h2,h3,_⟩:=app_longz (w.alloc (.cells #[.int .u8 b] 5)) base v n cs (own_below hown (ndc.below_new _ _)) (some ⟨w.heap.size,0,none⟩) 1 1 [b] hby (by omega) (by simp;omega)
  exact⟨v',w',h1,h2,((ndc.below_new w _).mono hbase).grown h3 (by simp;omega) fun j hj=>(hown.lt j hj).1⟩
theorem hbF_at {n:Int}(h:0≤n∧n<281474976710656)(j:Nat)(hj:j<6):(hbF n).take (2+j+1)=(hbF n).take (2+j)++[(hbF n).getD (2+j) 0]:=by
  rw[List.take_succ_eq_append_getElem (by rw[hbF_len h];omega),List.getD_eq_getElem?_getD,List.getElem?_eq_getElem (by rw[hbF_len h];omega)]
  rfl
theorem rbytes_yes (n:Int)(w:World)(h:0≤n∧n<281474976710656):Calls Tryz.prog 39 #[.int .i64 n] w (BysPost w (hbF n)):=by
  obtain⟨h0,h1⟩:=h
  have HH:=hd_ (ai_ h0 h1)
  have h0z: ¬n<0:=by omega
  have h1z: ¬281474976710656≤n:=by omega
  have hst:(w.alloc (.cells #[.int .u8 193,.int .u8 94] 5)).ownsRow w.heap.size 5 1 (.slice (some ⟨w.heap.size,0,none⟩) 2 2) (2+0) (vals ((hbF n).take (2+0)))∧Below w.heap.size w (w.alloc (.cells #[.int .u8 193,.int .u8 94] 5)):=by
    refine⟨?_,ndc.below_new _ _⟩
    rw[hbF_yes ⟨h0,h1⟩]
    exact World.ownsRow_lit w #[.int .u8 193,.int .u8 94] 2 (lr_ _) (by decide) rfl
  have HS:=hd_ hst
  clear hst h0 h1
  go_enter Tryz.func39,Tryz.ntmps39
  go_wp2_with fail
  clear h0z h1z
  go_loopg [3,4] 8 (fun gk s3 s4 wx=>∃(j:Nat) (vk:Value),s3=vk∧s4=.int .i64 (5 - (j:Int))∧j≤6∧7 - j≤gk∧Hid (wx.ownsRow w.heap.size 5 1 vk (2+j) (vals ((hbF n).take (2+j)))∧Below w.heap.size w wx))
  case atStart=>exact⟨0,_,rfl,rfl,by omega,by omega,HS⟩
  case round=>
    obtain⟨j,vk,hvk,rfl,hj,hgk,HI⟩:=hrel
    obtain rfl:=hvk.symm
    by_cases hlt:j<6
    · obtain⟨gk',rfl⟩: ∃g',gk=g'+1:=⟨gk - 1,by omega⟩
      have hx:=(hbF_fit n).getD (2+j)
      obtain⟨v2,w2,hrun,g1,g2⟩:=app_one wr w.heap.size vk (2+j) _ HI.out.1 ((hbF n).getD (2+j) 0) hx (by omega) HI.out.2.size
      rw[←vals_append,←hbF_at HH.out j hlt] at g1
      have HI2:=hd_ (ai_ g1 (HI.out.2.trans g2))
      have hyes:=hbF_yes HH.out
      clear g1 g2 hx
      obtain rfl |rfl |rfl |rfl |rfl |rfl:j=0∨j=1∨j=2∨j=3∨j=4∨j=5:=by omega
      all_goals
        rw[hyes] at hrun
        simp only[List.getD_cons_succ,List.getD_cons_zero,Nat.reduceAdd] at hrun
        clear hyes
        go_wp2_with (at_builtin;refine wpl_append rfl (.tmp 16) (.tmp 22) 34 rfl _ _ _ rfl rfl hrun ?_)
        clear hrun
        go_wp2
        go_roundg gk'
        case measure=>omega
        case rel=>first |exact⟨1,v2,rfl,rfl,by omega,by omega,HI2⟩ |exact⟨2,v2,rfl,rfl,by omega,by omega,HI2⟩ |exact⟨3,v2,rfl,rfl,by omega,by omega,HI2⟩ |exact⟨4,v2,rfl,rfl,by omega,by omega,HI2⟩ |exact⟨5,v2,rfl,rfl,by omega,by omega,HI2⟩ |exact⟨6,v2,rfl,rfl,by omega,by omega,HI2⟩
    · obtain rfl:j=6:=by omega
      have hI:=HI.out
      rw[List.take_of_length_le (by rw[hbF_len HH.out];omega)] at hI
      obtain⟨Af,cf,rfl,q1,q2,_⟩:=own_shape hI.1
      have HE:=hd_ (ai_ (Bys.own hI.1 (hbF_fit n)) (ai_ (ai_ q1 q2) hI.2))
      have HL:=hd_ (hbF_len HH.out)
      clear hI HI q1 q2
      go_wp2
      go_ret
      exact⟨Af,cf,by rw[HL.out];rfl,by rw[HL.out];exact HE.out.1,by rw[HL.out];exact HE.out.2.1,HE.out.2.2⟩
theorem rbytes_any (n:Int)(w:World):Calls Tryz.prog 39 #[.int .i64 n] w (BysPost w (hbF n)):=by
  by_cases h:0≤n∧n<281474976710656
  · exact rbytes_yes n w h
  · rw[hbF_none h]
    by_cases h0:n<0
    · go_enter Tryz.func39,Tryz.ntmps39
      go_wp2
      go_ret
      exact nil_post _
    · have h1:281474976710656≤n:=by omega
      go_enter Tryz.func39,Tryz.ntmps39
      go_wp2
      go_ret
      exact nil_post _
end Go.Proofs.YtkjkhoglkpepiaaGreatDoor.vtc
namespace Go.Proofs.YtkjkhoglkpepiaaGreatDoor.nmc
open Go.RowKit tlvc tlvd ndc txc txm intc intm vtc
theorem moment_any (s:Int)(w:World):Calls Tryz.prog 31 #[.int .i64 s] w fun e w'=>e=.returned (.bool (inRB s))∧Below w.heap.size w w':=by
 unfold inRB
 by_cases q1: -631152000≤s
 ·rw[decide_eq_true q1,Bool.true_and]
  by_cases q2:s≤253402300799
  ·rw[decide_eq_true q2]
   go_enter Tryz.func31,Tryz.ntmps31
   go_wp2
   go_ret
   exact⟨rfl,br_ _ _⟩
  ·rw[decide_eq_false q2]
   go_enter Tryz.func31,Tryz.ntmps31
   go_wp2
   go_ret
   exact⟨rfl,br_ _ _⟩
 ·rw[decide_eq_false q1,Bool.false_and]
  go_enter Tryz.func31,Tryz.ntmps31
  go_wp2
  go_ret
  exact⟨rfl,br_ _ _⟩
theorem handled_any (s:Int)(w:World):Calls Tryz.prog 32 #[.int .i64 s] w fun e w'=>e=.returned (.bool (hOK s))∧Below w.heap.size w w':=by
 unfold hOK
 by_cases q1:0≤s
 ·rw[decide_eq_true q1,Bool.true_and]
  by_cases q2:s<281474976710656
  ·rw[decide_eq_true q2]
   go_enter Tryz.func32,Tryz.ntmps32
   go_wp2
   go_ret
   exact⟨rfl,br_ _ _⟩
  ·rw[decide_eq_false q2]
   go_enter Tryz.func32,Tryz.ntmps32
   go_wp2
   go_ret
   exact⟨rfl,br_ _ _⟩
 ·rw[decide_eq_false q1,Bool.false_and]
  go_enter Tryz.func32,Tryz.ntmps32
  go_wp2
  go_ret
  exact⟨rfl,br_ _ _⟩
theorem rtimeC_any (s:Int)(w:World)(hi:InR s):Calls Tryz.prog 36 #[.int .i64 s] w (NVal (fun g=>w.heap.size≤g) w (timeNd s)):=by
 obtain⟨W0,hW0⟩:=nm_ (w.alloc (.cells #[.int .u8 0,.slice none 0 0,.slice none 0 0] 43))
 have hb0:Below w.heap.size w W0:=by rw[←hW0];exact below_new _ _
 have p0:W0.heap[w.heap.size]? =some (.cells #[.int .u8 0,.slice none 0 0,.slice none 0 0] 43):=by rw[←hW0];exact heap_new_ _ _
 have hz0:W0.heap.size=w.heap.size+1:=by rw[←hW0];simp
 have hp:=refPutTime_any s W0
 have e1:putT s=tagOf s:=by unfold putT;rw[if_pos hi]
 have e2:putB s=bodyOf s:=by unfold putB;rw[if_pos hi]
 rw[e1,e2] at hp
 have ht:=tag_bd s
 have hR:timeNd s=.mk (tagOf s) (bodyOf s) []:=rfl
 rw[hR]
 obtain⟨t,htt⟩:=nm_ (tagOf s)
 obtain⟨b,hbb⟩:=nm_ (bodyOf s)
 obtain⟨er,her⟩:=nm_ (putE s)
 rw[htt,hbb,her] at hp
 rw[htt] at ht
 rw[htt,hbb]
 have HP:=hd_ hp
 have HB:=hd_ (ai_ hb0 (ai_ p0 (ai_ hz0 ht)))
 clear hp hb0 p0 hz0 ht htt hbb her hR e1 e2
 go_enter Tryz.func36,Tryz.ntmps36
 go_wp2_with fail
 refine HP.out.mono ?_
 rintro e w1 ⟨A,c,rfl,⟨h1,h2,h3,h4⟩,hb1⟩
 have hz:=HB.out.2.2.1
 have p1:=(hb1.block w.heap.size (by omega)).trans HB.out.2.1
 have hB1:=below_then HB.out.1 hb1 (lr_ _)
 have hn:NdC (fun g=>W0.heap.size≤g) w1 (.mk t b []) (.int .u8 t) (.slice A b.length c) (.slice none 0 0):=ndC_leaf HB.out.2.2.2 h2 h3 h1 (fun hl g off sp e=>by
  obtain⟨g',off',e',_⟩:=h1.2.2 hl
  rw[e] at e'
  simp only[Option.some.injEq,Addr.mk.injEq] at e'
  obtain⟨rfl,rfl,rfl⟩:=e'
  exact(h4 _ _ e).1)
 obtain⟨r0,r1,r2,hB⟩:=res3 (y0:=.int .u8 t) (y1:=.slice A b.length c) (y2:=.slice none 0 0) (lr_ _) hB1 p1
 have hn2:=res3_nd (b:=w.heap.size) (y0:=.int .u8 t) (y1:=.slice A b.length c) (y2:=.slice none 0 0) (fun g hg=>by omega) hn
 obtain⟨⟨f0,f1,f2⟩,s0,s1,s2⟩:=st3 p1
 have HE:=hd_ (ai_ hB (NdC.mono (B':=fun g=>w.heap.size≤g) (fun g hg=>by omega) _ _ _ _ hn2))
 obtain⟨len,hlen⟩:=nm_ (b.length)
 rw[hlen] at r0 r1 r2 HE⊢
 clear hB hn2 hn hB1 p1 h1 h2 h3 h4 hb1 hlen
 go_wp2_with fail
 refine bodyPost_ret (v:=.agg #[.int .u8 t,.slice A len c,.slice none 0 0]) ?_ rfl ⟨HE.out.1,_,_,_,_,_,_,_,rfl,HE.out.2⟩
 simp[results,Tryz.results36,go_sem,r0,r1,r2]
theorem rhandleC_any (n:Int)(w:World)(h:0≤n∧n<281474976710656):Calls Tryz.prog 17 #[.int .i64 n] w (NVal (fun g=>w.heap.size≤g) w (hNd n)):=by
 obtain⟨W0,hW0⟩:=nm_ (w.alloc (.cells #[.int .u8 0,.slice none 0 0,.slice none 0 0] 43))
 have hb0:Below w.heap.size w W0:=by rw[←hW0];exact below_new _ _
 have p0:W0.heap[w.heap.size]? =some (.cells #[.int .u8 0,.slice none 0 0,.slice none 0 0] 43):=by rw[←hW0];exact heap_new_ _ _
 have hz0:W0.heap.size=w.heap.size+1:=by rw[←hW0];simp
 have hp:=vtc.rbytes_any n W0
 have hl:=hbF_len h
 have hR:hNd n=.mk 4 (hbF n) []:=rfl
 rw[hR]
 obtain⟨b,hb⟩:=nm_ (hbF n)
 rw[hb] at hp hl⊢
 have HP:=hd_ hp
 have HB:=hd_ (ai_ hb0 (ai_ p0 (ai_ hz0 hl)))
 clear hp hb0 p0 hz0 hl hR hb
 go_enter Tryz.func17,Tryz.ntmps17
 go_wp2_with fail
 refine HP.out.mono ?_
 rintro e w1 ⟨A,c,rfl,h1,⟨h2,h3⟩,hb1⟩
 rw[HB.out.2.2.2] at h1 h2⊢
 have HC:=hd_ (roctets_any A 8 c b w1 h1 h2 h3 (by decide))
 have H1:=hd_ hb1
 clear hb1 h1 h2 h3 HP
 go_wp2_with fail
 refine HC.out.mono ?_
 rintro e w2 ⟨hb2,t,A2,l2,k2,K2,m2,u2,rfl,hn⟩
 have hz:=HB.out.2.2.1
 have hbx:=below_then H1.out hb2 (lr_ _)
 have p1:=(hbx.block w.heap.size (by omega)).trans HB.out.2.1
 have hB1:=below_then HB.out.1 hbx (lr_ _)
 have hs1:=H1.out.size
 obtain⟨r0,r1,r2,hB⟩:=res3 (y0:=.int .u8 t) (y1:=.slice A2 l2 k2) (y2:=.slice K2 m2 u2) (lr_ _) hB1 p1
 have hn2:=res3_nd (b:=w.heap.size) (y0:=.int .u8 t) (y1:=.slice A2 l2 k2) (y2:=.slice K2 m2 u2) (fun g hg=>by omega) hn
 obtain⟨⟨f0,f1,f2⟩,s0,s1,s2⟩:=st3 p1
 have HE:=hd_ (ai_ hB (NdC.mono (B':=fun g=>w.heap.size≤g) (fun g hg=>by omega) _ _ _ _ hn2))
 clear hB hn2 hn hB1 p1 hb2 hbx hz hs1 HC H1
 go_wp2_with fail
 refine bodyPost_ret (v:=.agg #[.int .u8 t,.slice A2 l2 k2,.slice K2 m2 u2]) ?_ rfl ⟨HE.out.1,_,_,_,_,_,_,_,rfl,HE.out.2⟩
 simp[results,Tryz.results17,go_sem,r0,r1,r2]
structure SG (w5:World) (ns:List Nd) (v:Value) (wx:World):Prop where
 bel:Below w5.heap.size w5 wx
 row:GRow ndE 43 w5.heap.size (fun g=>w5.heap.size≤g) wx v ns
theorem SG.push {w5 wx w2:World}{ns:List Nd}{v:Value}(h:SG w5 ns v wx)(hb:Below wx.heap.size wx w2){n:Nd}{k0 k1 k2:Value}(hn:NdC (fun g=>wx.heap.size≤g) w2 n k0 k1 k2)(hl:ns.length≤1000):
 ∃A c w4,(Builtin.append_ #[41,41] 41 #[v,.slice (some ⟨w2.heap.size,0,none⟩) 1 1]).run Tryz.prog (w2.alloc (.cells #[k0,k1,k2] 43))=.ok (.slice A (ns.length+1) c) w4∧SG w5 (ns++[n]) (.slice A (ns.length+1) c) w4:=by
 have hz:=h.bel.size
 have hz2:=hb.size
 have hb2:=below_then hb (below_new w2 (.cells #[k0,k1,k2] 43)) (lr_ _)
 have hrow:=h.row.below (fun g hg=>hg) hb2
 have hown:=h.row.lt
 have hnx:=NdC.below (below_new w2 (.cells #[k0,k1,k2] 43)) _ _ _ _ hn
 have hbox:=heap_new_ w2 (.cells #[k0,k1,k2] 43)
 have hs2:w2.heap.size< (w2.alloc (.cells #[k0,k1,k2] 43)).heap.size:=by simp
 have ne: ∀g,wx.heap.size≤g→some g≠v.ownBlock:=fun g hg e=>by have:=(hown g e.symm).2;omega
 obtain⟨v',w4,hr,hrow',hgr⟩:=hrow.app (E:=ndE) Tryz.infN (fun g hg=>hg) 41 (g:=w2.heap.size) (off:=0) (c:=1) (x:=n) (news:=[k0,k1,k2]) ⟨by omega,hs2,ne _ hz2⟩
  (fun j u hu=>by
    rw[Nat.zero_add,ch_ hbox]
    match j,hu with
    |0,hu=>exact hu
    |1,hu=>exact hu
    |2,hu=>exact hu
    |j+3,hu=>simp at hu)
  ⟨k0,k1,k2,rfl,NdC.mono (fun g hg=>⟨Nat.le_trans hz hg.1,hg.2,ne g hg.1⟩) _ _ _ _ (NdC.bound _ _ _ _ hnx)⟩ (by omega) (by unfold maxLen;omega) (by omega)
 obtain⟨A,c,rfl,hc1,hc2⟩:=hrow'.shape
 rw[show(ns++[n]).length=ns.length+1 by simp] at hr hrow'
 exact⟨A,c,w4,hr,(below_then h.bel hb2 (lr_ _)).grown hgr (by omega) (fun j hj=>by have:=(hown j hj).1;omega),hrow'⟩
end Go.Proofs.YtkjkhoglkpepiaaGreatDoor.nmc
set_option maxRecDepth 100000
set_option maxHeartbeats 16000000
set_option linter.unusedVariables false
set_option linter.unusedSimpArgs false
namespace Go.Proofs.YtkjkhoglkpepiaaGreatDoor.nmc
open Go.RowKit tlvc tlvd ndc txc txm intc intm vtc
theorem rrightC_any (B:Nat→Prop)(c:Ce)(c0 c1 c2 c3 c4 c5 x0 x1 x2 x3 x4 x5 x6 x7 x8 c6:Value)(w:World)(hx:CeC B w c c0 c1 c2 c3 c4 c5 x0 x1 x2 x3 x4 x5 x6 x7 x8 c6)(hT:Tabs w):
 Calls Tryz.prog 13 #[.agg #[c0,c1,c2,c3,c4,c5,x0,x1,x2,x3,x4,x5,x6,x7,x8,c6]] w fun e w'=>e=.returned (.bool (rightC c))∧Below w.heap.size w w':=by
 obtain⟨a0,A1,l1,i1,a2,a3,A4,l4,i4,a5,q0,q1,q2,q3,B4,m4,j4,B5,m5,j5,B6,m6,j6,B7,m7,j7,B8,m8,j8,a7,rfl,rfl,rfl,rfl,rfl,rfl,rfl,rfl,rfl,rfl,rfl,rfl,rfl,rfl,rfl,rfl⟩:=ceC_shape hx
 obtain⟨W0,hW0⟩:=nm_ (w.alloc (.cells #[.int .i64 a0,.slice A1 l1 i1,.int .i64 a2,.int .i64 a3,.slice A4 l4 i4,.int .i64 a5,.bool q0,.bool q1,.int .i64 q2,.int .u16 q3,.slice B4 m4 j4,.slice B5 m5 j5,.slice B6 m6 j6,.slice B7 m7 j7,.slice B8 m8 j8,.int .i64 a7] 32))
 have hb0:Below w.heap.size w W0:=by rw[←hW0];exact below_new _ _
 have p0:W0.heap[w.heap.size]? =some (.cells #[.int .i64 a0,.slice A1 l1 i1,.int .i64 a2,.int .i64 a3,.slice A4 l4 i4,.int .i64 a5,.bool q0,.bool q1,.int .i64 q2,.int .u16 q3,.slice B4 m4 j4,.slice B5 m5 j5,.slice B6 m6 j6,.slice B7 m7 j7,.slice B8 m8 j8,.int .i64 a7] 32):=by rw[←hW0];exact heap_new_ _ _
 have hL1:=ls4 (hx.iss.below hb0)
 have HC:=hd_ (rright_any _ A1 l1 i1 c.iss W0 hL1.1 hL1.2.2.2 hL1.2.1 hL1.2.2.1 (hT.below hb0))
 have HP:=hd_ (fun W (hW:Below W0.heap.size W0 W)=>box16 ((hW.block _ (Array.getElem?_eq_some_iff.1 p0).1).trans p0))
 have hsub:=fun W (hW:Below W0.heap.size W0 W)=>ls4 (hx.sub.below (below_then hb0 hW (lr_ _)))
 have HC2:=hd_ (fun W (hW:Below W0.heap.size W0 W)=>rright_any _ A4 l4 i4 c.sub W (hsub W hW).1 (hsub W hW).2.2.2 (hsub W hW).2.1 (hsub W hW).2.2.1 (hT.below (below_then hb0 hW (lr_ _))))
 have HC3:=hd_ (fun W (hW:Below W0.heap.size W0 W)=>rrightX_any _ c.ex _ _ _ _ _ _ _ _ _ W ((hx.below (below_then hb0 hW (lr_ _))).ex) (hT.below (below_then hb0 hW (lr_ _))))
 have h0:a0=c.ser:=by have:=hx.ser.1;simpa using this
 have h2:a2=c.frm:=by have:=hx.frm.1;simpa using this
 have h3:a3=c.til:=by have:=hx.til.1;simpa using this
 have h5:a5=c.key:=by have:=hx.key.1;simpa using this
 have h7:a7=c.sig:=by have:=hx.sig.1;simpa using this
 have hR:rightC c=(serOK a0 && (rightN c.iss && (inRB a2 && (inRB a3 && (rightN c.sub && (hOK a5 && (rightX c.ex && hOK a7))))))):=by rw[h0,h2,h3,h5,h7];rfl
 obtain⟨r1,hr1⟩:=nm_ (rightN c.iss)
 obtain⟨r2,hr2⟩:=nm_ (rightN c.sub)
 obtain⟨r3,hr3⟩:=nm_ (rightX c.ex)
 obtain⟨r4,hr4⟩:=nm_ (inRB a2)
 obtain⟨r5,hr5⟩:=nm_ (inRB a3)
 obtain⟨r6,hr6⟩:=nm_ (hOK a5)
 obtain⟨r7,hr7⟩:=nm_ (hOK a7)
 rw[hr1,hr2,hr3,hr4,hr5,hr6,hr7] at hR
 rw[hr1] at HC
 rw[hr2] at HC2
 rw[hr3] at HC3
 have HM1:=hd_ (fun W=>(show Calls _ _ _ _ (fun e w'=>e=.returned (.bool r4)∧Below W.heap.size W w') by rw[←hr4];exact moment_any a2 W))
 have HM2:=hd_ (fun W=>(show Calls _ _ _ _ (fun e w'=>e=.returned (.bool r5)∧Below W.heap.size W w') by rw[←hr5];exact moment_any a3 W))
 have HM3:=hd_ (fun W=>(show Calls _ _ _ _ (fun e w'=>e=.returned (.bool r6)∧Below W.heap.size W w') by rw[←hr6];exact handled_any a5 W))
 have HM4:=hd_ (fun W=>(show Calls _ _ _ _ (fun e w'=>e=.returned (.bool r7)∧Below W.heap.size W w') by rw[←hr7];exact handled_any a7 W))
 obtain⟨RR,hRR⟩:=nm_ (rightC c)
 rw[hRR] at hR⊢
 have HR:=hd_ hR
 have HB:=hd_ hb0
 have e1:=(box16 p0).1.2.1
 clear hL1 hsub p0 hx hT h0 h2 h3 h5 h7 hR hr1 hr2 hr3 hr4 hr5 hr6 hr7 hRR hb0
 go_enter Tryz.func13,Tryz.ntmps13
 go_wp2_with fail
 clear e1
 refine HC.out.mono ?_
 rintro e w1 ⟨rfl,hb1⟩
 have H1:=hd_ hb1
 have e4:=(HP.out w1 hb1).1.2.2.2.2.1
 have HD:=hd_ (HC2.out w1 hb1)
 clear hb1 HC HC2
 go_wp2_with fail
 clear e4
 refine HD.out.mono ?_
 rintro e w2 ⟨rfl,hb2⟩
 have hb2:=below_then H1.out hb2 (lr_ _)
 have H2:=hd_ hb2
 obtain⟨f0,f1,f2,f3,f4,f5,f6,f7,f8⟩:=(HP.out w2 hb2).2.1
 have HD:=hd_ (HC3.out w2 hb2)
 clear hb2 HC3 H1
 go_wp2_with fail
 clear f0 f1 f2 f3 f4 f5 f6 f7 f8
 refine HD.out.mono ?_
 rintro e w3 ⟨rfl,hb3⟩
 have hb3:=below_then H2.out hb3 (lr_ _)
 have H3:=hd_ hb3
 have HE:=hd_ (below_then HB.out hb3 (lr_ _))
 obtain⟨⟨y0,_,y2,y3,_,y5⟩,_,y7⟩:=HP.out w3 hb3
 clear hb3 HD H2
 by_cases s0:0≤a0
 case neg=>
  have HRR:=hd_ (show false=RR by rw[HR.out];unfold serOK;rw[decide_eq_false s0];rfl)
  go_wp2
  go_ret
  exact⟨by rw[←HRR.out];rfl,HE.out⟩
 by_cases s1:a0≤4611686018427387904
 case neg=>
  have HRR:=hd_ (show false=RR by rw[HR.out];unfold serOK;rw[decide_eq_false s1,Bool.and_false];rfl)
  go_wp2
  go_ret
  exact⟨by rw[←HRR.out];rfl,HE.out⟩
 have HR:=hd_ (show RR=(r1 && (r4 && (r5 && (r2 && (r6 && (r3 && r7)))))) by rw[HR.out];unfold serOK;rw[decide_eq_true s0,decide_eq_true s1];rfl)
 cases r1 with
 |false=>
  have HRR:=hd_ (show false=RR by rw[HR.out];rfl)
  go_wp2
  go_ret
  exact⟨by rw[←HRR.out];rfl,HE.out⟩
 |true=>
 cases r2 with
 |false=>
  have HRR:=hd_ (show false=RR by rw[HR.out];cases r4<;>cases r5<;>rfl)
  go_wp2
  go_ret
  exact⟨by rw[←HRR.out];rfl,HE.out⟩
 |true=>
 cases r3 with
 |false=>
  have HRR:=hd_ (show false=RR by rw[HR.out];cases r4<;>cases r5<;>cases r6<;>rfl)
  go_wp2
  go_ret
  exact⟨by rw[←HRR.out];rfl,HE.out⟩
 |true=>
 have HR:=hd_ (show RR=(r4 && (r5 && (r6 && r7))) by rw[HR.out];cases r4<;>cases r5<;>cases r6<;>cases r7<;>rfl)
 have HD:=hd_ (HM1.out w3)
 go_wp2_with fail
 clear y0 y2
 refine HD.out.mono ?_
 rintro e w4 ⟨rfl,hb4⟩
 have hb4:=below_then H3.out hb4 (lr_ _)
 have HE:=hd_ (below_then HB.out hb4 (lr_ _))
 have H4:=hd_ hb4
 obtain⟨⟨_,_,_,y3,_,y5⟩,_,y7⟩:=HP.out w4 hb4
 clear hb4 HD H3
 cases r4 with
 |false=>
  have HRR:=hd_ (show false=RR by rw[HR.out];rfl)
  go_wp2
  go_ret
  exact⟨by rw[←HRR.out];rfl,HE.out⟩
 |true=>
 have HD:=hd_ (HM2.out w4)
 go_wp2_with fail
 clear y3
 refine HD.out.mono ?_
 rintro e w5 ⟨rfl,hb5⟩
 have hb5:=below_then H4.out hb5 (lr_ _)
 have HE:=hd_ (below_then HB.out hb5 (lr_ _))
 have H5:=hd_ hb5
 obtain⟨⟨_,_,_,_,_,y5⟩,_,y7⟩:=HP.out w5 hb5
 clear hb5 HD H4
 cases r5 with
 |false=>
  have HRR:=hd_ (show false=RR by rw[HR.out];rfl)
  go_wp2
  go_ret
  exact⟨by rw[←HRR.out];rfl,HE.out⟩
 |true=>
 have HD:=hd_ (HM3.out w5)
 go_wp2_with fail
 clear y5
 refine HD.out.mono ?_
 rintro e w6 ⟨rfl,hb6⟩
 have hb6:=below_then H5.out hb6 (lr_ _)
 have HE:=hd_ (below_then HB.out hb6 (lr_ _))
 have H6:=hd_ hb6
 obtain⟨_,_,y7⟩:=HP.out w6 hb6
 clear hb6 HD H5
 cases r6 with
 |false=>
  have HRR:=hd_ (show false=RR by rw[HR.out];rfl)
  go_wp2
  go_ret
  exact⟨by rw[←HRR.out];rfl,HE.out⟩
 |true=>
 have HD:=hd_ (HM4.out w6)
 have HRR:=hd_ (show r7=RR by rw[HR.out];rfl)
 go_wp2_with fail
 clear y7
 refine HD.out.mono ?_
 rintro e w7 ⟨rfl,hb7⟩
 have HE:=hd_ (below_then HB.out (below_then H6.out hb7 (lr_ _)) (lr_ _))
 clear hb7 HD H6
 go_wp2
 go_ret
 exact⟨by rw[←HRR.out];rfl,HE.out⟩
end Go.Proofs.YtkjkhoglkpepiaaGreatDoor.nmc
