/- The document's words on parts: word, RightPrinc, Right; its makers of nodes: Oid, Text, Seq. The document's right principals, and the node of a name. -/
import Derived.Test.YtconbejjagcnkaaGreatDoorYb
import Derived.Test.YtconbejjagcnkaaGreatDoorXf
import Derived.Test.YtconbejjagcnkaaGreatDoorXv
import Derived.Deep.RegionHeld3
namespace Go.Proofs.YtconbejjagcnkaaGreatDoor.nmc
open Go.RowKit Go.Proofs.YtconbejjagcnkaaGreatDoor.tlvc Go.Proofs.YtconbejjagcnkaaGreatDoor.tlvd Go.Proofs.YtconbejjagcnkaaGreatDoor.ndc Go.Proofs.YtconbejjagcnkaaGreatDoor.txc Go.Proofs.YtconbejjagcnkaaGreatDoor.txm Go.Proofs.YtconbejjagcnkaaGreatDoor.intc Go.Proofs.YtconbejjagcnkaaGreatDoor.intm
set_option linter.unusedVariables false
set_option linter.unusedSimpArgs false
/-- A node that a call makes. -/
def NVal (S:Nat→Prop)(w:World)(n:Nd)(e:Ending)(w':World):Prop:=
  Below w.heap.size w w'∧∃t A la ca K lk ck,e=.returned (.agg #[.int .u8 t,.slice A la ca,.slice K lk ck])∧NdC S w' n (.int .u8 t) (.slice A la ca) (.slice K lk ck)
theorem NVal.mono {S S':Nat→Prop}{w:World}{n:Nd}{e:Ending}{w':World}(hS: ∀g,S g→S' g)(h:NVal S w n e w'):NVal S' w n e w':=by
  obtain⟨hb,t,A,la,ca,K,lk,ck,e,hn⟩:=h
  exact⟨hb,t,A,la,ca,K,lk,ck,e,NdC.mono hS _ _ _ _ hn⟩
set_option maxRecDepth 100000 in
set_option maxHeartbeats 4000000 in
theorem rtext_any (t:Int)(s:ByteArray)(w:World)(ht:0≤t∧t≤255)(hs:s.size≤maxLen):
    Calls Tryz.prog 89 #[.int .u8 t,.string s] w (NVal (fun g=>w.heap.size≤g) w (.mk t (bytesI s) [])):=by
  obtain⟨W0,hW0⟩: ∃x,w.alloc (.cells #[.int .u8 0,.slice none 0 0,.slice none 0 0] 40)=x:=⟨_,rfl⟩
  have hb0:Below w.heap.size w W0:=by rw[←hW0];exact below_new _ _
  have p0:W0.heap[w.heap.size]? =some (.cells #[.int .u8 0,.slice none 0 0,.slice none 0 0] 40):=by rw[←hW0];exact heap_new_ _ _
  have hz0:W0.heap.size=w.heap.size+1:=by rw[←hW0];simp
  obtain⟨cp,W2,hcv,hc1,hc2,hby,hbw,hz2⟩:=conv_at W0 s hs
  have hB2:=below_then hb0 hbw (Nat.le_refl _)
  have p2:=(hbw.block _ (by omega)).trans p0
  have hnd:NdC (fun g=>w.heap.size<g) W2 (.mk t (bytesI s) []) (.int .u8 t) (.slice (some ⟨W0.heap.size,0,none⟩) s.size cp) (.slice none 0 0):=ndC_leaf ht hc1 hc2 hby (fun _ g off sp e=>by cases e;omega)
  obtain⟨r0,r1,r2,hB⟩:=res3 (y0:=.int .u8 t) (y1:=.slice (some ⟨W0.heap.size,0,none⟩) s.size cp) (y2:=.slice none 0 0) (Nat.le_refl _) hB2 p2
  have hn2:=res3_nd (b:=w.heap.size) (y0:=.int .u8 t) (y1:=.slice (some ⟨W0.heap.size,0,none⟩) s.size cp) (y2:=.slice none 0 0) (fun g hg=>by omega) hnd
  have f0:=Lib.frozen_of_heap p2 0
  have f1:=Lib.frozen_of_heap p2 1
  have f2:=Lib.frozen_of_heap p2 2
  have s0:=(Lib.cell_of_heap p2 0).trans rfl
  have s1:=(Lib.cell_of_heap p2 1).trans rfl
  have s2:=(Lib.cell_of_heap p2 2).trans rfl
  have HE:=Lib.hid (And.intro hB (NdC.mono (B':=fun g=>w.heap.size≤g) (fun g hg=>by omega) _ _ _ _ hn2))
  clear hB hn2 hnd hB2 p2 hby hbw p0 hb0 hz0 hz2 hc1 hc2
  go_enter Tryz.func89,Tryz.ntmps89
  go_wp2_with fail
  refine bodyPost_ret (v:=.agg #[.int .u8 t,.slice (some ⟨W0.heap.size,0,none⟩) s.size cp,.slice none 0 0]) ?_ rfl ⟨HE.out.1,_,_,_,_,_,_,_,rfl,HE.out.2⟩
  simp[results,Tryz.results89,go_sem,r0,r1,r2]
set_option maxRecDepth 100000 in
set_option maxHeartbeats 4000000 in
theorem rseq_any (S:Nat→Prop)(t:Int)(K:Option Addr)(n ck:Nat)(ks:List Nd)(w:World)(ht:0≤t∧t≤255)(hk:ks.length=n)(hc:n≤ck)(hm:ck≤maxLen)(hL:Lst ndE S w K ks):
    Calls Tryz.prog 20 #[.int .u8 t,.slice K n ck] w (NVal S w (.mk t [] ks)):=by
  subst hk
  obtain⟨W0,hW0⟩: ∃x,w.alloc (.cells #[.int .u8 0,.slice none 0 0,.slice none 0 0] 40)=x:=⟨_,rfl⟩
  have hb0:Below w.heap.size w W0:=by rw[←hW0];exact below_new _ _
  have p0:W0.heap[w.heap.size]? =some (.cells #[.int .u8 0,.slice none 0 0,.slice none 0 0] 40):=by rw[←hW0];exact heap_new_ _ _
  have hnd:NdC S w (.mk t [] ks) (.int .u8 t) (.slice none 0 0) (.slice K ks.length ck):=ndC_of ht hc hm hL
  obtain⟨r0,r1,r2,hB⟩:=res3 (y0:=.int .u8 t) (y1:=.slice none 0 0) (y2:=.slice K ks.length ck) (Nat.le_refl _) hb0 p0
  have hn2:=NdC.below hB _ _ _ _ hnd
  have f0:=Lib.frozen_of_heap p0 0
  have f1:=Lib.frozen_of_heap p0 1
  have f2:=Lib.frozen_of_heap p0 2
  have s0:=(Lib.cell_of_heap p0 0).trans rfl
  have s1:=(Lib.cell_of_heap p0 1).trans rfl
  have s2:=(Lib.cell_of_heap p0 2).trans rfl
  have HE:=Lib.hid (And.intro hB hn2)
  obtain⟨len,hlen⟩: ∃x,ks.length=x:=⟨_,rfl⟩
  clear hB hn2 hnd p0 hb0 hc hm hL
  rw[hlen] at r0 r1 r2 HE⊢
  clear hlen
  go_enter Tryz.func20,Tryz.ntmps20
  go_wp2_with fail
  refine bodyPost_ret (v:=.agg #[.int .u8 t,.slice none 0 0,.slice K len ck]) ?_ rfl ⟨HE.out.1,_,_,_,_,_,_,_,rfl,HE.out.2⟩
  simp[results,Tryz.results20,go_sem,r0,r1,r2]
set_option maxRecDepth 100000 in
set_option maxHeartbeats 4000000 in
theorem roid_any (A:Option Addr)(n c:Nat)(xs:List Int)(w:World)(ho:objB xs=true)(hx:Ins w A n xs)(hc:n≤c)(hm:c≤maxLen):
    Calls Tryz.prog 88 #[.slice A n c] w (NVal (fun g=>w.heap.size≤g) w (.mk 6 (encO xs) [])):=by
  obtain⟨W0,hW0⟩: ∃x,w.alloc (.cells #[.int .u8 0,.slice none 0 0,.slice none 0 0] 40)=x:=⟨_,rfl⟩
  have hb0:Below w.heap.size w W0:=by rw[←hW0];exact below_new _ _
  have p0:W0.heap[w.heap.size]? =some (.cells #[.int .u8 0,.slice none 0 0,.slice none 0 0] 40):=by rw[←hW0];exact heap_new_ _ _
  have hz0:W0.heap.size=w.heap.size+1:=by rw[←hW0];simp
  have hput:=refPutOID_any A n c xs W0 (hx.below hb0) hc hm
  rw[putO_yes ho] at hput
  have HC:=Lib.hid hput
  have HB:=Lib.hid (And.intro hb0 (And.intro p0 hz0))
  obtain⟨ys,hys⟩: ∃x,encO xs=x:=⟨_,rfl⟩
  rw[hys] at HC⊢
  clear hput hb0 p0 hz0 hx hys ho
  go_enter Tryz.func88,Tryz.ntmps88
  go_wp2_with fail
  refine HC.out.mono ?_
  rintro e w1 ⟨A1,c1,rfl,hh,hb1⟩
  have hz:=HB.out.2.2
  have p1:=(hb1.block w.heap.size (by omega)).trans HB.out.2.1
  have hB1:=below_then HB.out.1 hb1 (Nat.le_refl _)
  have hnd:NdC (fun g=>w.heap.size<g) w1 (.mk 6 ys []) (.int .u8 6) (.slice A1 ys.length c1) (.slice none 0 0):=ndC_leaf (by omega) hh.2.1 hh.2.2.1 hh.1 (fun hn g off sp e=>by
    obtain⟨b',off',e',hb',_⟩:=hh.1.2.2 hn
    have:=hh.2.2.2 b' off' e'
    rw[e'] at e;cases e;omega)
  obtain⟨r0,r1,r2,hB⟩:=res3 (y0:=.int .u8 6) (y1:=.slice A1 ys.length c1) (y2:=.slice none 0 0) (Nat.le_refl _) hB1 p1
  have hn2:=res3_nd (b:=w.heap.size) (y0:=.int .u8 6) (y1:=.slice A1 ys.length c1) (y2:=.slice none 0 0) (fun g hg=>by omega) hnd
  have f0:=Lib.frozen_of_heap p1 0
  have f1:=Lib.frozen_of_heap p1 1
  have f2:=Lib.frozen_of_heap p1 2
  have s0:=(Lib.cell_of_heap p1 0).trans rfl
  have s1:=(Lib.cell_of_heap p1 1).trans rfl
  have s2:=(Lib.cell_of_heap p1 2).trans rfl
  have HE:=Lib.hid (And.intro hB (NdC.mono (B':=fun g=>w.heap.size≤g) (fun g hg=>by omega) _ _ _ _ hn2))
  clear hB hn2 hnd p1 hB1 hh hb1 HC HB hz
  go_wp2_with fail
  refine bodyPost_ret (v:=.agg #[.int .u8 6,.slice A1 ys.length c1,.slice none 0 0]) ?_ rfl ⟨HE.out.1,_,_,_,_,_,_,_,rfl,HE.out.2⟩
  simp[results,Tryz.results88,go_sem,r0,r1,r2]
theorem all_drop_no {α:Type}{p:α→Bool}{xs:List α}{i:Nat}{R:Bool}(hi:i<xs.length)(h:(xs.drop i).all p=R)(hp:p xs[i]=false):R=false:=by
  rw[←h,List.drop_eq_getElem_cons hi,List.all_cons,hp,Bool.false_and]
theorem all_drop_yes {α:Type}{p:α→Bool}{xs:List α}{i:Nat}{R:Bool}(hi:i<xs.length)(h:(xs.drop i).all p=R)(hp:p xs[i]=true):(xs.drop (i+1)).all p=R:=by
  rw[←h,List.drop_eq_getElem_cons hi,List.all_cons,hp,Bool.true_and]
theorem all_drop_end {α:Type}{p:α→Bool}{xs:List α}{i:Nat}{R:Bool}(hi: ¬i<xs.length)(h:(xs.drop i).all p=R):R=true:=by
  rw[←h,List.drop_eq_nil_of_le (by omega)]
  rfl
set_option maxRecDepth 100000 in
set_option maxHeartbeats 8000000 in
theorem rright_any (B:Nat→Prop)(A:Option Addr)(len cap:Nat)(xs:List At)(w:World)(hl:xs.length=len)(hL:Lst atE B w A xs)(hc:len≤cap)(hm:cap≤maxLen)(hT:Tabs w):
    Calls Tryz.prog 41 #[.slice A len cap] w fun e w'=>e=.returned (.bool (rightN xs))∧Below w.heap.size w w':=by
  have h9:cap≤9223372036854775807:=by unfold maxLen at hm;omega
  unfold rightN
  rw[hl]
  by_cases hbad:8<len
  · rw[decide_eq_false (by omega),Bool.false_and]
    have hbz:(8:Int)< (len:Int):=by omega
    clear hL
    go_enter Tryz.func41,Tryz.ntmps41
    go_wp2
    go_ret
    exact⟨rfl,Below.refl _ _⟩
  rw[decide_eq_true (by omega),Bool.true_and]
  have hbz: ¬(8:Int)< (len:Int):=by omega
  obtain⟨R,hR⟩: ∃x,xs.all attrOK=x:=⟨_,rfl⟩
  rw[hR]
  have HR:=Lib.hid (show(xs.drop 0).all attrOK=R by rw[List.drop_zero];exact hR)
  have HL:=Lib.hid (And.intro hl hL)
  clear hl hL hR
  go_enter Tryz.func41,Tryz.ntmps41
  go_wp2_with fail
  go_loopg [3] (len+1) (fun gk s3 wx=>∃(i:Nat),s3=.int .i64 i∧i≤len∧len - i<gk∧Hid ((xs.drop i).all attrOK=R∧Below w.heap.size w wx))
  case atStart=>exact⟨0,rfl,by omega,by omega,Lib.hid ⟨HR.out,Below.refl _ _⟩⟩
  case round=>
    obtain⟨i,rfl,hi,hgk,HI⟩:=hrel
    clear HR
    by_cases hlt:i<len
    · have hltz:(i:Int)< (len:Int):=by omega
      obtain⟨gk',rfl⟩: ∃g',gk=g'+1:=⟨gk - 1,by omega⟩
      have HN:=Lib.hid (And.intro (show i+1≤len from hlt) (show len - (i+1)<gk' by omega))
      have hix:i<xs.length:=by rw[HL.out.1];exact hlt
      obtain⟨g,off,cs,rfl,hg,hcell,hold⟩:=(HL.out.2.below HI.out.2).at i hix
      obtain⟨c0,c1,rfl,A0,l0,k0,rfl,rfl,hx1,hx2,hx3,hx4,hx5⟩:=hold
      have e0:=hcell 0 _ rfl
      have e1:=hcell 1 _ rfl
      rw[show atE.sz=2 from rfl] at e0 e1
      rw[Nat.add_zero] at e0
      have hob:=refObject_any A0 l0 k0 xs[i].oid wr hx3 hx1 hx2
      have hatt:attrOK xs[i]=(objB xs[i].oid && decide (xs[i].text.size≤64) && utfS xs[i].text):=rfl
      obtain⟨s,hs⟩: ∃x,xs[i].text=x:=⟨_,rfl⟩
      obtain⟨o,ho⟩: ∃x,objB xs[i].oid=x:=⟨_,rfl⟩
      obtain⟨a,ha⟩: ∃x,attrOK xs[i]=x:=⟨_,rfl⟩
      rw[hs] at e1 hx5
      rw[ho] at hob
      rw[ha,hs,ho] at hatt
      have hval: ∀W,Tabs W→Calls Tryz.prog 82 #[.string s] W fun e w'=>e=.returned (.bool (utfS s))∧Below W.heap.size W w':=fun W hW=>Any.utf8_ValidString Tryz.lays196 s W (by unfold maxLen at hx5;omega) hW
      have hs9:s.size≤9223372036854775807:=by unfold maxLen at hx5;omega
      have HO:=Lib.hid hob
      have HV:=Lib.hid hval
      have HA:=Lib.hid (And.intro ha hatt)
      clear hob hval hatt ha hs ho hx1 hx2 hx3 hx4 hx5 hcell hgk
      go_wp2_with fail
      refine HO.out.mono ?_
      rintro e w1 ⟨rfl,q,rfl⟩
      have hbq:=Lib.hid (below_then HI.out.2 (below_drewN (w:=wr) q) (Nat.le_refl _))
      have hVq:=HV.out (wr.drewN q) (hT.below hbq.out)
      have HVQ:=Lib.hid hVq
      clear hVq HO HV
      cases o with
      |false=>
       have hR:=all_drop_no hix HI.out.1 (by rw[HA.out.1,HA.out.2];rfl)
       subst hR
       go_wp2
       go_ret
       exact⟨rfl,hbq.out⟩
      |true=>
       by_cases h64:s.size≤64
       · have hz1: ¬(64:Int)< (s.size:Int):=by omega
         obtain⟨u,hu⟩: ∃x,utfS s=x:=⟨_,rfl⟩
         rw[hu] at HVQ HA
         go_wp2_with fail
         refine HVQ.out.mono ?_
         rintro e w3 ⟨rfl,hb3⟩
         have hfin:=Lib.hid (below_then hbq.out hb3 (Nat.le_refl _))
         clear hb3 HVQ
         cases u with
         |false=>
          have hR:=all_drop_no hix HI.out.1 (by rw[HA.out.1,HA.out.2,Bool.and_false])
          subst hR
          go_wp2
          go_ret
          exact⟨rfl,hfin.out⟩
         |true=>
          have hst:=all_drop_yes hix HI.out.1 (by rw[HA.out.1,HA.out.2,decide_eq_true h64];rfl)
          have HST:=Lib.hid hst
          clear hst
          go_wp2
          go_roundg gk'
          case measure=>omega
          case rel=>exact⟨i+1,by go_num,HN.out.1,HN.out.2,Lib.hid ⟨HST.out,hfin.out⟩⟩
       · have hz1:(64:Int)< (s.size:Int):=by omega
         have hR:=all_drop_no hix HI.out.1 (by rw[HA.out.1,HA.out.2,decide_eq_false h64];rfl)
         subst hR
         go_wp2
         go_ret
         exact⟨rfl,hbq.out⟩
    · obtain rfl:len=i:=by omega
      have hltz: ¬(len:Int)< (len:Int):=by omega
      have hR:=all_drop_end (by rw[HL.out.1];omega) HI.out.1
      subst hR
      clear hgk
      go_wp2
      go_ret
      exact⟨rfl,HI.out.2⟩
end Go.Proofs.YtconbejjagcnkaaGreatDoor.nmc
namespace Go.Proofs.YtconbejjagcnkaaGreatDoor.nmc
open Go.RowKit Go.Proofs.YtconbejjagcnkaaGreatDoor.tlvc Go.Proofs.YtconbejjagcnkaaGreatDoor.tlvd Go.Proofs.YtconbejjagcnkaaGreatDoor.ndc Go.Proofs.YtconbejjagcnkaaGreatDoor.txc Go.Proofs.YtconbejjagcnkaaGreatDoor.txm Go.Proofs.YtconbejjagcnkaaGreatDoor.intc Go.Proofs.YtconbejjagcnkaaGreatDoor.intm
set_option linter.unusedVariables false
set_option linter.unusedSimpArgs false
theorem below_drew (w:World):Below w.heap.size w w.drew:=(Below.refl _ _).drew
theorem cell_on {w w':World}(hb:Below w.heap.size w w'){p:Addr}{v:Value}(h:w.cell? p=some v):w'.cell? p=some v:=(hb.cell (World.block_lt_of_cell? w p h)).trans h
/-- A list that a call makes, on its way; nothing else is written behind the world W0. -/
structure LInv {α:Type} (E:El α) (e:TypeId) (Y:Nat→Prop) (W0:World) (v:Value) (xs:List α) (wx:World):Prop where
  bel:Below W0.heap.size W0 wx
  row:GRow E e W0.heap.size Y wx v xs
section
variable {α:Type} {E:El α} {e:TypeId} {Y:Nat→Prop} {W0 wx w':World} {v:Value} {xs:List α}
theorem LInv.start:LInv E e Y W0 (.slice none 0 0) [] W0:=⟨Below.refl _ _,GRow.nil⟩
theorem LInv.below (hY: ∀g,W0.heap.size≤g→Y g)(h:LInv E e Y W0 v xs wx)(hb:Below wx.heap.size wx w'):LInv E e Y W0 v xs w':=⟨below_then h.bel hb (Nat.le_refl _),h.row.below hY hb⟩
theorem LInv.push {P:Program}{t:TypeId}{bytes:Nat}(I:Inf P t e E.sz bytes)(hY: ∀g,W0.heap.size≤g→Y g)(h:LInv E e Y W0 v xs wx)(hb:Below wx.heap.size wx w'){x:α}{news:List Value}(hx:E.hold (fun g=>Y g∧(g<W0.heap.size∨wx.heap.size≤g)) w' x news){g1:Nat}(hg1:wx.heap.size≤g1){T:TypeId}{fr:Nat × Nat}{cs:Array Value}(hbox:w'.heap[g1]? =some (.cells cs T fr))(hcs: ∀(j:Nat) (u:Value),news[j]? =some u→cs[j]? =some u)(hn:(xs.length+1)*bytes≤140737488355328)(hm:xs.length+1≤maxLen):
    ∃A c w2,(Builtin.append_ #[t,t] t #[v,.slice (some ⟨g1,0,none⟩) 1 1]).run P w'=.ok (.slice A (xs.length+1) c) w2∧LInv E e Y W0 (.slice A (xs.length+1) c) (xs++[x]) w2:=by
  have h':=h.below hY hb
  have hg1l:=(Array.getElem?_eq_some_iff.1 hbox).1
  have hlow:=h.bel.size
  have hlow':=h'.bel.size
  have hown:=h.row.lt
  have ne: ∀g,wx.heap.size≤g→some g≠v.ownBlock:=fun g hg e=>by have:=(hown g e.symm).2;omega
  have ne2: ∀g,g<W0.heap.size→some g≠v.ownBlock:=fun g hg e=>by have:=(hown g e.symm).1;omega
  obtain⟨v',w2,hr,hrow,hgr⟩:=h'.row.app I hY t (g:=g1) (off:=0) (c:=1) (x:=x) (news:=news) ⟨hY g1 (by omega),hg1l,ne g1 hg1⟩
    (fun j u hu=>by rw[Nat.zero_add,Lib.cell_of_heap hbox];exact hcs j u hu)
    (E.mono (fun g hg=>⟨hg.1.1,hg.2,hg.1.2.elim (ne2 g) (ne g)⟩) (E.bound hx)) hn hm hlow'
  obtain⟨A,c,rfl,hc1,hc2⟩:=hrow.shape
  rw[show(xs++[x]).length=xs.length+1 by simp] at hr hrow
  exact⟨A,c,w2,hr,h'.bel.grown hgr hlow' (fun j hj=>(hown j hj).1),hrow⟩
end
end Go.Proofs.YtconbejjagcnkaaGreatDoor.nmc
