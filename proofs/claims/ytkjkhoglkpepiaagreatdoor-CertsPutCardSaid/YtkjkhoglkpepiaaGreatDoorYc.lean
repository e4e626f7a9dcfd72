/- The document's words on parts: word, RightPrinc, Right; its  -/
import Derived.Test.YtkjkhoglkpepiaaGreatDoorYb
import Derived.Test.YtkjkhoglkpepiaaGreatDoorXv
import Derived.Deep.RegionHeld3
set_option maxRecDepth 100000
set_option maxHeartbeats 8000000
set_option linter.unusedVariables false
set_option linter.unusedSimpArgs false
namespace Go.Proofs.YtkjkhoglkpepiaaGreatDoor.nmc
open Go.RowKit tlvc tlvd ndc txc txm intc intm
theorem rword_any (s:ByteArray)(w:World)(hs:s.size≤maxLen)(hT:Tabs w):
 Calls Tryz.prog 148 #[.string s] w fun e w'=>e=.returned (.bool (wordOK s))∧Below w.heap.size w w':=by
 have h9:s.size≤9223372036854775807:=by unfold maxLen at hs;omega
 obtain⟨cp,W2,hcv,hc1,hc2,hby,hbw,hz2⟩:=conv_at w s hs
 have hr:=refRight_any 27 _ _ _ _ W2 hby hc1 hc2 (hT.below hbw)
 rw[show rightD 27 (bytesI s)=rightB 27 (bytesI s) from rfl] at hr
 obtain⟨RES,hRES⟩:=nm_ (wordOK s)
 rw[hRES]
 unfold wordOK at hRES
 obtain⟨r,hrr⟩:=nm_ (rightB 27 (bytesI s))
 rw[hrr] at hr hRES
 have HR:=hd_ hr
 have HB:=hd_ hbw
 have HX:=hd_ hRES
 clear hr hrr hby hbw hz2 hc1 hc2 hT hRES
 go_enter Tryz.func148,Tryz.ntmps148
 go_wp2_with fail
 refine HR.out.mono ?_
 rintro e w3 ⟨rfl,hb3⟩
 have hfin:=hd_ (below_then HB.out hb3 (lr_ _))
 clear hb3 HR HB
 by_cases h1:1≤s.size
 ·have hz1:(0:Int)< (s.size:Int):=by omega
  by_cases h2:s.size≤64
  ·have hz2:(s.size:Int)≤64:=by omega
   cases r
   all_goals
    go_wp2
    go_ret
    exact⟨by rw[←HX.out,decide_eq_true h1,decide_eq_true h2];rfl,hfin.out⟩
  ·have hz2: ¬(s.size:Int)≤64:=by omega
   cases r
   all_goals
    go_wp2
    go_ret
    exact⟨by rw[←HX.out,decide_eq_true h1,decide_eq_false h2];first |rfl | (simp;omega),hfin.out⟩
 ·have hz1: ¬(0:Int)< (s.size:Int):=by omega
  cases r
  all_goals
   go_wp2
   go_ret
   exact⟨by rw[←HX.out,decide_eq_false h1];rfl,hfin.out⟩
def NVal (S:Nat→Prop)(w:World)(n:Nd)(e:Ending)(w':World):Prop:=
 Below w.heap.size w w'∧∃t A la ca K lk ck,e=.returned (.agg #[.int .u8 t,.slice A la ca,.slice K lk ck])∧NdC S w' n (.int .u8 t) (.slice A la ca) (.slice K lk ck)
theorem NVal.mono {S S':Nat→Prop}{w:World}{n:Nd}{e:Ending}{w':World}(hS: ∀g,S g→S' g)(h:NVal S w n e w'):NVal S' w n e w':=by
 obtain⟨hb,t,A,la,ca,K,lk,ck,e,hn⟩:=h
 exact⟨hb,t,A,la,ca,K,lk,ck,e,NdC.mono hS _ _ _ _ hn⟩
theorem rtext_any (t:Int)(s:ByteArray)(w:World)(ht:0≤t∧t≤255)(hs:s.size≤maxLen):
 Calls Tryz.prog 77 #[.int .u8 t,.string s] w (NVal (fun g=>w.heap.size≤g) w (.mk t (bytesI s) [])):=by
 obtain⟨W0,hW0⟩:=nm_ (w.alloc (.cells #[.int .u8 0,.slice none 0 0,.slice none 0 0] 43))
 have hb0:Below w.heap.size w W0:=by rw[←hW0];exact below_new _ _
 have p0:W0.heap[w.heap.size]? =some (.cells #[.int .u8 0,.slice none 0 0,.slice none 0 0] 43):=by rw[←hW0];exact heap_new_ _ _
 have hz0:W0.heap.size=w.heap.size+1:=by rw[←hW0];simp
 obtain⟨cp,W2,hcv,hc1,hc2,hby,hbw,hz2⟩:=conv_at W0 s hs
 have hB2:=below_then hb0 hbw (lr_ _)
 have p2:=(hbw.block _ (by omega)).trans p0
 have hnd:NdC (fun g=>w.heap.size<g) W2 (.mk t (bytesI s) []) (.int .u8 t) (.slice (some ⟨W0.heap.size,0,none⟩) s.size cp) (.slice none 0 0):=ndC_leaf ht hc1 hc2 hby (fun _ g off sp e=>by cases e;omega)
 obtain⟨r0,r1,r2,hB⟩:=res3 (y0:=.int .u8 t) (y1:=.slice (some ⟨W0.heap.size,0,none⟩) s.size cp) (y2:=.slice none 0 0) (lr_ _) hB2 p2
 have hn2:=res3_nd (b:=w.heap.size) (y0:=.int .u8 t) (y1:=.slice (some ⟨W0.heap.size,0,none⟩) s.size cp) (y2:=.slice none 0 0) (fun g hg=>by omega) hnd
 have f0:=fh_ p2 0
 have f1:=fh_ p2 1
 have f2:=fh_ p2 2
 have s0:=(ch_ p2 0).trans rfl
 have s1:=(ch_ p2 1).trans rfl
 have s2:=(ch_ p2 2).trans rfl
 have HE:=hd_ (ai_ hB (NdC.mono (B':=fun g=>w.heap.size≤g) (fun g hg=>by omega) _ _ _ _ hn2))
 clear hB hn2 hnd hB2 p2 hby hbw p0 hb0 hz0 hz2 hc1 hc2
 go_enter Tryz.func77,Tryz.ntmps77
 go_wp2_with fail
 refine bodyPost_ret (v:=.agg #[.int .u8 t,.slice (some ⟨W0.heap.size,0,none⟩) s.size cp,.slice none 0 0]) ?_ rfl ⟨HE.out.1,_,_,_,_,_,_,_,rfl,HE.out.2⟩
 simp[results,Tryz.results77,go_sem,r0,r1,r2]
theorem rseq_any (S:Nat→Prop)(t:Int)(K:Option Addr)(n ck:Nat)(ks:List Nd)(w:World)(ht:0≤t∧t≤255)(hk:ks.length=n)(hc:n≤ck)(hm:ck≤maxLen)(hL:Lst ndE S w K ks):
 Calls Tryz.prog 15 #[.int .u8 t,.slice K n ck] w (NVal S w (.mk t [] ks)):=by
 subst hk
 obtain⟨W0,hW0⟩:=nm_ (w.alloc (.cells #[.int .u8 0,.slice none 0 0,.slice none 0 0] 43))
 have hb0:Below w.heap.size w W0:=by rw[←hW0];exact below_new _ _
 have p0:W0.heap[w.heap.size]? =some (.cells #[.int .u8 0,.slice none 0 0,.slice none 0 0] 43):=by rw[←hW0];exact heap_new_ _ _
 have hnd:NdC S w (.mk t [] ks) (.int .u8 t) (.slice none 0 0) (.slice K ks.length ck):=ndC_of ht hc hm hL
 obtain⟨r0,r1,r2,hB⟩:=res3 (y0:=.int .u8 t) (y1:=.slice none 0 0) (y2:=.slice K ks.length ck) (lr_ _) hb0 p0
 have hn2:=NdC.below hB _ _ _ _ hnd
 have f0:=fh_ p0 0
 have f1:=fh_ p0 1
 have f2:=fh_ p0 2
 have s0:=(ch_ p0 0).trans rfl
 have s1:=(ch_ p0 1).trans rfl
 have s2:=(ch_ p0 2).trans rfl
 have HE:=hd_ (ai_ hB hn2)
 obtain⟨len,hlen⟩:=nm_ (ks.length)
 clear hB hn2 hnd p0 hb0 hc hm hL
 rw[hlen] at r0 r1 r2 HE⊢
 clear hlen
 go_enter Tryz.func15,Tryz.ntmps15
 go_wp2_with fail
 refine bodyPost_ret (v:=.agg #[.int .u8 t,.slice none 0 0,.slice K len ck]) ?_ rfl ⟨HE.out.1,_,_,_,_,_,_,_,rfl,HE.out.2⟩
 simp[results,Tryz.results15,go_sem,r0,r1,r2]
theorem roid_any (A:Option Addr)(n c:Nat)(xs:List Int)(w:World)(ho:objB xs=true)(hx:Ins w A n xs)(hc:n≤c)(hm:c≤maxLen):
 Calls Tryz.prog 76 #[.slice A n c] w (NVal (fun g=>w.heap.size≤g) w (.mk 6 (encO xs) [])):=by
 obtain⟨W0,hW0⟩:=nm_ (w.alloc (.cells #[.int .u8 0,.slice none 0 0,.slice none 0 0] 43))
 have hb0:Below w.heap.size w W0:=by rw[←hW0];exact below_new _ _
 have p0:W0.heap[w.heap.size]? =some (.cells #[.int .u8 0,.slice none 0 0,.slice none 0 0] 43):=by rw[←hW0];exact heap_new_ _ _
 have hz0:W0.heap.size=w.heap.size+1:=by rw[←hW0];simp
 have hput:=refPutOID_any A n c xs W0 (hx.below hb0) hc hm
 rw[putO_yes ho] at hput
 have HC:=hd_ hput
 have HB:=hd_ (ai_ hb0 (ai_ p0 hz0))
 obtain⟨ys,hys⟩:=nm_ (encO xs)
 rw[hys] at HC⊢
 clear hput hb0 p0 hz0 hx hys ho
 go_enter Tryz.func76,Tryz.ntmps76
 go_wp2_with fail
 refine HC.out.mono ?_
 rintro e w1 ⟨A1,c1,rfl,hh,hb1⟩
 have hz:=HB.out.2.2
 have p1:=(hb1.block w.heap.size (by omega)).trans HB.out.2.1
 have hB1:=below_then HB.out.1 hb1 (lr_ _)
 have hnd:NdC (fun g=>w.heap.size<g) w1 (.mk 6 ys []) (.int .u8 6) (.slice A1 ys.length c1) (.slice none 0 0):=ndC_leaf (by omega) hh.2.1 hh.2.2.1 hh.1 (fun hn g off sp e=>by
  obtain⟨b',off',e',hb',_⟩:=hh.1.2.2 hn
  have:=hh.2.2.2 b' off' e'
  rw[e'] at e;cases e;omega)
 obtain⟨r0,r1,r2,hB⟩:=res3 (y0:=.int .u8 6) (y1:=.slice A1 ys.length c1) (y2:=.slice none 0 0) (lr_ _) hB1 p1
 have hn2:=res3_nd (b:=w.heap.size) (y0:=.int .u8 6) (y1:=.slice A1 ys.length c1) (y2:=.slice none 0 0) (fun g hg=>by omega) hnd
 have f0:=fh_ p1 0
 have f1:=fh_ p1 1
 have f2:=fh_ p1 2
 have s0:=(ch_ p1 0).trans rfl
 have s1:=(ch_ p1 1).trans rfl
 have s2:=(ch_ p1 2).trans rfl
 have HE:=hd_ (ai_ hB (NdC.mono (B':=fun g=>w.heap.size≤g) (fun g hg=>by omega) _ _ _ _ hn2))
 clear hB hn2 hnd p1 hB1 hh hb1 HC HB hz
 go_wp2_with fail
 refine bodyPost_ret (v:=.agg #[.int .u8 6,.slice A1 ys.length c1,.slice none 0 0]) ?_ rfl ⟨HE.out.1,_,_,_,_,_,_,_,rfl,HE.out.2⟩
 simp[results,Tryz.results76,go_sem,r0,r1,r2]
theorem all_drop_no {α:Type}{p:α→Bool}{xs:List α}{i:Nat}{R:Bool}(hi:i<xs.length)(h:(xs.drop i).all p=R)(hp:p xs[i]=false):R=false:=by
 rw[←h,List.drop_eq_getElem_cons hi,List.all_cons,hp,Bool.false_and]
theorem all_drop_yes {α:Type}{p:α→Bool}{xs:List α}{i:Nat}{R:Bool}(hi:i<xs.length)(h:(xs.drop i).all p=R)(hp:p xs[i]=true):(xs.drop (i+1)).all p=R:=by
 rw[←h,List.drop_eq_getElem_cons hi,List.all_cons,hp,Bool.true_and]
theorem all_drop_end {α:Type}{p:α→Bool}{xs:List α}{i:Nat}{R:Bool}(hi: ¬i<xs.length)(h:(xs.drop i).all p=R):R=true:=by
 rw[←h,List.drop_eq_nil_of_le (by omega)]
 rfl
theorem rright_any (B:Nat→Prop)(A:Option Addr)(len cap:Nat)(xs:List At)(w:World)(hl:xs.length=len)(hL:Lst atE B w A xs)(hc:len≤cap)(hm:cap≤maxLen)(hT:Tabs w):
 Calls Tryz.prog 29 #[.slice A len cap] w fun e w'=>e=.returned (.bool (rightN xs))∧Below w.heap.size w w':=by
 have h9:cap≤9223372036854775807:=by unfold maxLen at hm;omega
 unfold rightN
 rw[hl]
 by_cases hbad:8<len
 ·rw[decide_eq_false (by omega),Bool.false_and]
  have hbz:(8:Int)< (len:Int):=by omega
  clear hL
  go_enter Tryz.func29,Tryz.ntmps29
  go_wp2
  go_ret
  exact⟨rfl,br_ _ _⟩
 rw[decide_eq_true (by omega),Bool.true_and]
 have hbz: ¬(8:Int)< (len:Int):=by omega
 obtain⟨R,hR⟩:=nm_ (xs.all attrOK)
 rw[hR]
 have HR:=hd_ (show(xs.drop 0).all attrOK=R by rw[List.drop_zero];exact hR)
 have HL:=hd_ (ai_ hl hL)
 clear hl hL hR
 go_enter Tryz.func29,Tryz.ntmps29
 go_wp2_with fail
 go_loopg [3] (len+1) (fun gk s3 wx=>∃(i:Nat),s3=.int .i64 i∧i≤len∧len - i<gk∧Hid ((xs.drop i).all attrOK=R∧Below w.heap.size w wx))
 case atStart=>exact⟨0,rfl,by omega,by omega,hd_ ⟨HR.out,br_ _ _⟩⟩
 case round=>
  obtain⟨i,rfl,hi,hgk,HI⟩:=hrel
  clear HR
  by_cases hlt:i<len
  ·have hltz:(i:Int)< (len:Int):=by omega
   obtain⟨gk',rfl⟩: ∃g',gk=g'+1:=⟨gk - 1,by omega⟩
   have HN:=hd_ (ai_ (show i+1≤len from hlt) (show len - (i+1)<gk' by omega))
   have hix:i<xs.length:=by rw[HL.out.1];exact hlt
   obtain⟨g,off,cs,rfl,hg,hcell,hold⟩:=(HL.out.2.below HI.out.2).at i hix
   obtain⟨c0,c1,rfl,A0,l0,k0,rfl,rfl,hx1,hx2,hx3,hx4,hx5⟩:=hold
   have e0:=hcell 0 _ rfl
   have e1:=hcell 1 _ rfl
   rw[show atE.sz=2 from rfl] at e0 e1
   rw[Nat.add_zero] at e0
   have hob:=refObject_any A0 l0 k0 xs[i].oid wr hx3 hx1 hx2
   have hatt:attrOK xs[i]=(objB xs[i].oid && decide (xs[i].text.size≤64) && utfS xs[i].text):=rfl
   obtain⟨s,hs⟩:=nm_ (xs[i].text)
   obtain⟨o,ho⟩:=nm_ (objB xs[i].oid)
   obtain⟨a,ha⟩:=nm_ (attrOK xs[i])
   rw[hs] at e1 hx5
   rw[ho] at hob
   rw[ha,hs,ho] at hatt
   have hval: ∀W,Tabs W→Calls Tryz.prog 67 #[.string s] W fun e w'=>e=.returned (.bool (utfS s))∧Below W.heap.size W w':=fun W hW=>Any.utf8_ValidString Tryz.lays196 s W (by unfold maxLen at hx5;omega) hW
   have hs9:s.size≤9223372036854775807:=by unfold maxLen at hx5;omega
   have HO:=hd_ hob
   have HV:=hd_ hval
   have HA:=hd_ (ai_ ha hatt)
   clear hob hval hatt ha hs ho hx1 hx2 hx3 hx4 hx5 hcell hgk
   go_wp2_with fail
   refine HO.out.mono ?_
   rintro e w1 ⟨rfl,q,rfl⟩
   have hbq:=hd_ (below_then HI.out.2 (below_drewN (w:=wr) q) (lr_ _))
   have hVq:=HV.out (wr.drewN q) (hT.below hbq.out)
   have HVQ:=hd_ hVq
   clear hVq HO HV
   cases o with
   |false=>
    have hR:=all_drop_no hix HI.out.1 (by rw[HA.out.1,HA.out.2];rfl)
    subst hR
    go_wp2
    go_ret
    exact⟨rfl,hbq.out⟩
   |true=>
    by_cases h64:s.size≤64
    ·have hz1: ¬(64:Int)< (s.size:Int):=by omega
     obtain⟨u,hu⟩:=nm_ (utfS s)
     rw[hu] at HVQ HA
     go_wp2_with fail
     refine HVQ.out.mono ?_
     rintro e w3 ⟨rfl,hb3⟩
     have hfin:=hd_ (below_then hbq.out hb3 (lr_ _))
     clear hb3 HVQ
     cases u with
     |false=>
      have hR:=all_drop_no hix HI.out.1 (by rw[HA.out.1,HA.out.2,Bool.and_false])
      subst hR
      go_wp2
      go_ret
      exact⟨rfl,hfin.out⟩
     |true=>
      have hst:=all_drop_yes hix HI.out.1 (by rw[HA.out.1,HA.out.2,decide_eq_true h64];rfl)
      have HST:=hd_ hst
      clear hst
      go_wp2
      go_roundg gk'
      case measure=>omega
      case rel=>exact⟨i+1,by go_num,HN.out.1,HN.out.2,hd_ ⟨HST.out,hfin.out⟩⟩
    ·have hz1:(64:Int)< (s.size:Int):=by omega
     have hR:=all_drop_no hix HI.out.1 (by rw[HA.out.1,HA.out.2,decide_eq_false h64];rfl)
     subst hR
     go_wp2
     go_ret
     exact⟨rfl,hbq.out⟩
  ·obtain rfl:len=i:=by omega
   have hltz: ¬(len:Int)< (len:Int):=by omega
   have hR:=all_drop_end (by rw[HL.out.1];omega) HI.out.1
   subst hR
   clear hgk
   go_wp2
   go_ret
   exact⟨rfl,HI.out.2⟩
end Go.Proofs.YtkjkhoglkpepiaaGreatDoor.nmc
namespace Go.Proofs.YtkjkhoglkpepiaaGreatDoor.nmc
open Go.RowKit tlvc tlvd ndc txc txm intc intm
theorem below_drew (w:World):Below w.heap.size w w.drew:=(br_ _ _).drew
theorem cell_on {w w':World}(hb:Below w.heap.size w w'){p:Addr}{v:Value}(h:w.cell? p=some v):w'.cell? p=some v:=(hb.cell (World.block_lt_of_cell? w p h)).trans h
structure LInv {α:Type} (E:El α) (e:TypeId) (Y:Nat→Prop) (W0:World) (v:Value) (xs:List α) (wx:World):Prop where
 bel:Below W0.heap.size W0 wx
 row:GRow E e W0.heap.size Y wx v xs
section
variable {α:Type} {E:El α} {e:TypeId} {Y:Nat→Prop} {W0 wx w':World} {v:Value} {xs:List α}
theorem LInv.start:LInv E e Y W0 (.slice none 0 0) [] W0:=⟨br_ _ _,GRow.nil⟩
theorem LInv.below (hY: ∀g,W0.heap.size≤g→Y g)(h:LInv E e Y W0 v xs wx)(hb:Below wx.heap.size wx w'):LInv E e Y W0 v xs w':=⟨below_then h.bel hb (lr_ _),h.row.below hY hb⟩
theorem LInv.push {P:Program}{t:TypeId}{bytes:Nat}(I:Inf P t e E.sz bytes)(hY: ∀g,W0.heap.size≤g→Y g)(h:LInv E e Y W0 v xs wx)(hb:Below wx.heap.size wx w'){x:α}{news:List Value}(hx:E.hold (fun g=>Y g∧(g<W0.heap.size∨wx.heap.size≤g)) w' x news){g1:Nat}(hg1:wx.heap.size≤g1){T:TypeId}{fr:Nat × Nat}{cs:Array Value}(hbox:w'.heap[g1]? =some (.cells cs T fr))(hcs: ∀(j:Nat) (u:Value),news[j]? =some u→cs[j]? =some u)(hn:(xs.length+1)*bytes≤140737488355328)(hm:xs.length+1≤maxLen):
 ∃A c w2,(Builtin.append_ #[t,t] t #[v,.slice (some ⟨g1,0,none⟩) 1 1]).run P w'=.ok (.slice A (xs.length+1) c) w2∧LInv E e Y W0 (.slice A (xs.length+1) c) (xs++[x]) w2:=by
 have h':=h.below hY hb
 have hg1l:=(Array.getElem?_eq_some_iff.1 hbox).1
 have hlow:=h.bel.size
 have hlow':=h'.bel.size
 have hown:=h.row.lt
 have ne: ∀g,wx.heap.size≤g→some g≠v.ownBlock:=fun g hg e=>by have:=(hown g e.symm).2;omega
 have ne2: ∀g,g<W0.heap.size→some g≠v.ownBlock:=fun g hg e=>by have:=(hown g e.symm).1;omega
 obtain⟨v',w2,hr,hrow,hgr⟩:=h'.row.app I hY t (g:=g1) (off:=0) (c:=1) (x:=x) (news:=news) ⟨hY g1 (by omega),hg1l,ne g1 hg1⟩
  (fun j u hu=>by rw[Nat.zero_add,ch_ hbox];exact hcs j u hu)
  (E.mono (fun g hg=>⟨hg.1.1,hg.2,hg.1.2.elim (ne2 g) (ne g)⟩) (E.bound hx)) hn hm hlow'
 obtain⟨A,c,rfl,hc1,hc2⟩:=hrow.shape
 rw[show(xs++[x]).length=xs.length+1 by simp] at hr hrow
 exact⟨A,c,w2,hr,h'.bel.grown hgr hlow' (fun j hj=>(hown j hj).1),hrow⟩
end
theorem rrightP_any (B:Nat→Prop)(p:Pr)(c0 c1:Value)(w:World)(hp:PrC B w p c0 c1)(hT:Tabs w):
 Calls Tryz.prog 68 #[.agg #[c0,c1]] w fun e w'=>e=.returned (.bool (rightP p))∧Below w.heap.size w w':=by
 obtain⟨A,cap,rfl,rfl,hc,hm,hL,hs⟩:=hp
 have h9:cap≤9223372036854775807:=by unfold maxLen at hm;omega
 obtain⟨len,hlen⟩:=nm_ (p.names.length)
 have hrp:rightP p=(wordOK p.realm && decide (1≤p.names.length) && decide (p.names.length≤8) && p.names.all wordOK):=rfl
 obtain⟨R,hR⟩:=nm_ (rightP p)
 rw[hR] at hrp⊢
 obtain⟨s,hs0⟩:=nm_ (p.realm)
 obtain⟨xs,hxs⟩:=nm_ (p.names)
 rw[hxs] at hlen hrp hL hc⊢
 rw[hs0] at hs hrp⊢
 rw[hlen] at hc hrp⊢
 obtain⟨W0,hW0⟩:=nm_ (w.alloc (.cells #[.string s,.slice A len cap] 117))
 have hb0:Below w.heap.size w W0:=by rw[←hW0];exact below_new _ _
 have q0:W0.heap[w.heap.size]? =some (.cells #[.string s,.slice A len cap] 117):=by rw[←hW0];exact heap_new_ _ _
 have hz0:W0.heap.size=w.heap.size+1:=by rw[←hW0];simp
 have b0:W0.cell? ⟨w.heap.size,0,none⟩=some (.string s):=(ch_ q0 _).trans rfl
 have hbx: ∀W,Below W0.heap.size W0 W→W.cell? ⟨w.heap.size,1,none⟩=some (.slice A len cap)∧Below w.heap.size w W:=fun W hW=>⟨(hW.cell (p:=⟨w.heap.size,1,none⟩) (by show w.heap.size<_;omega)).trans ((ch_ q0 _).trans rfl),below_then hb0 hW (lr_ _)⟩
 have hwd:=rword_any s W0 hs (hT.below hb0)
 obtain⟨r,hr⟩:=nm_ (wordOK s)
 rw[hr] at hwd hrp
 have HX:=hd_ hbx
 have HL:=hd_ (ai_ hlen hL)
 have HW:=hd_ hwd
 have HR:=hd_ hrp
 clear hbx hlen hL hwd hr hrp hs q0 hz0 hb0 hR hs0 hxs hm
 go_enter Tryz.func68,Tryz.ntmps68
 go_wp2_with fail
 refine HW.out.mono ?_
 rintro e w1 ⟨rfl,hb1⟩
 obtain⟨b1,hB1⟩:=HX.out w1 hb1
 have HB:=hd_ (ai_ hB1 hb1)
 clear hb1 hB1 HW b0
 cases r with
 |false=>
  have hR:R=false:=HR.out
  subst hR
  go_wp2
  go_ret
  exact⟨rfl,HB.out.1⟩
 |true=>
  by_cases h1: ¬1≤len
  ·have hR:R=false:=by rw[HR.out,decide_eq_false h1];rfl
   subst hR
   obtain rfl:len=0:=by omega
   go_wp2
   go_ret
   exact⟨rfl,HB.out.1⟩
  have h1:1≤len:=by omega
  by_cases h8: ¬len≤8
  ·have hz1: ¬(len:Int)<1:=by omega
   have hz2:(8:Int)< (len:Int):=by omega
   have hR:R=false:=by rw[HR.out,decide_eq_false h8,Bool.and_false];rfl
   subst hR
   go_wp2
   go_ret
   exact⟨rfl,HB.out.1⟩
  have h8:len≤8:=by omega
  have hz1: ¬(len:Int)<1:=by omega
  have hz2: ¬(8:Int)< (len:Int):=by omega
  have hall:(xs.drop 0).all wordOK=R:=by rw[HR.out,decide_eq_true h1,decide_eq_true h8,List.drop_zero];rfl
  have HA:=hd_ hall
  clear hall HR
  go_wp2_with fail
  go_loopg [3,4] (len+1) (fun gk s3 s4 wx=>s3=.bool true∧∃(i:Nat),s4=.int .i64 i∧i≤len∧len - i<gk∧Hid ((xs.drop i).all wordOK=R∧Below W0.heap.size W0 wx))
  case atStart=>exact⟨rfl,0,rfl,by omega,by omega,hd_ ⟨HA.out,HB.out.2⟩⟩
  case round=>
   obtain⟨rfl,i,rfl,hi,hgk,HI⟩:=hrel
   clear HA HB b1
   obtain⟨b1,hBw⟩:=HX.out wr HI.out.2
   have HBw:=hd_ hBw
   clear hBw
   by_cases hlt:i<len
   ·have hltz:(i:Int)< (len:Int):=by omega
    obtain⟨gk',rfl⟩: ∃g',gk=g'+1:=⟨gk - 1,by omega⟩
    have HN:=hd_ (ai_ (show i+1≤len from hlt) (show len - (i+1)<gk' by omega))
    have hix:i<xs.length:=by rw[HL.out.1];exact hlt
    obtain⟨g,off,cs,rfl,hg,hcell,hold⟩:=(HL.out.2.below HBw.out).at i hix
    obtain⟨rfl,hx5⟩:=hold
    have e0:=hcell 0 _ rfl
    rw[show stE.sz=1 from rfl] at e0
    rw[Nat.add_zero,Nat.mul_one] at e0
    have hwd:=rword_any xs[i] wr hx5 (hT.below HBw.out)
    obtain⟨tx,htx⟩:=nm_ (xs[i])
    rw[htx] at e0 hwd
    obtain⟨r,hr⟩:=nm_ (wordOK tx)
    rw[hr] at hwd
    have HW:=hd_ hwd
    have HA:=hd_ (show wordOK xs[i]=r by rw[htx];exact hr)
    clear hwd hr htx hx5 hcell hgk
    go_wp2_with fail
    refine HW.out.mono ?_
    rintro e w3 ⟨rfl,hb3⟩
    have hbl:=below_then HI.out.2 hb3 (lr_ _)
    obtain⟨b3,hB3⟩:=HX.out w3 hbl
    have HB3:=hd_ (ai_ hB3 hbl)
    clear hb3 hbl hB3 HW e0 b1
    cases r with
    |false=>
     have hR:=all_drop_no hix HI.out.1 HA.out
     subst hR
     go_wp2
     go_ret
     exact⟨rfl,HB3.out.1⟩
    |true=>
     have HST:=hd_ (all_drop_yes hix HI.out.1 HA.out)
     go_wp2
     go_roundg gk'
     case measure=>omega
     case rel=>exact⟨rfl,i+1,by go_num,HN.out.1,HN.out.2,hd_ ⟨HST.out,HB3.out.2⟩⟩
   ·obtain rfl:len=i:=by omega
    have hltz: ¬(len:Int)< (len:Int):=by omega
    have hR:=all_drop_end (by rw[HL.out.1];omega) HI.out.1
    subst hR
    clear hgk
    go_wp2
    go_ret
    exact⟨rfl,HBw.out⟩
end Go.Proofs.YtkjkhoglkpepiaaGreatDoor.nmc
