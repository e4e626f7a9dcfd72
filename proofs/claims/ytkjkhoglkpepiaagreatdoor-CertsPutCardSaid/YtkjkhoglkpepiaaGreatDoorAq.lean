/- The program's bounded and oddsRight. -/
import Derived.Test.YtkjkhoglkpepiaaGreatDoorAp
import Derived.Test.YtkjkhoglkpepiaaGreatDoorAk
import Derived.Laws.EntriesVeiled
set_option maxRecDepth 100000
set_option maxHeartbeats 8000000
set_option linter.unusedVariables false
set_option linter.unusedSimpArgs false
namespace Go.Proofs.YtkjkhoglkpepiaaGreatDoor.nmc
open Go.RowKit tlvc tlvd ndc txc txm intc intm
theorem box9 {W0 W:World}(h:Below W0.heap.size W0 W){g:Nat}{v0 v1 v2 v3 v4 v5 v6 v7 v8:Value}{T:TypeId}{fr:Nat × Nat}(hq:W0.heap[g]? =some (.cells #[v0,v1,v2,v3,v4,v5,v6,v7,v8] T fr)):W.cell? ⟨g,0,none⟩=some v0∧W.cell? ⟨g,1,none⟩=some v1∧W.cell? ⟨g,2,none⟩=some v2∧W.cell? ⟨g,3,none⟩=some v3∧W.cell? ⟨g,4,none⟩=some v4∧W.cell? ⟨g,5,none⟩=some v5∧W.cell? ⟨g,6,none⟩=some v6∧W.cell? ⟨g,7,none⟩=some v7∧W.cell? ⟨g,8,none⟩=some v8:=by
 have hq:=(h.block g (Array.getElem?_eq_some_iff.1 hq).1).trans hq
 exact⟨(ch_ hq _).trans rfl,(ch_ hq _).trans rfl,(ch_ hq _).trans rfl,(ch_ hq _).trans rfl,(ch_ hq _).trans rfl,(ch_ hq _).trans rfl,(ch_ hq _).trans rfl,(ch_ hq _).trans rfl,(ch_ hq _).trans rfl⟩
theorem run_max5 {P:Program}(ts:Array TypeId)(t:TypeId)(a b c d e m:Nat)(hm:max (max (max (max a b) c) d) e=m)(w:World):(Builtin.max_ ts t #[.int .i64 (a:Int),.int .i64 (b:Int),.int .i64 (c:Int),.int .i64 (d:Int),.int .i64 (e:Int)]).run P w=.ok (.int .i64 (m:Int)) w:=by
 simp[Builtin.max_,Builtin.max2]
 repeat' split
 all_goals omega
theorem max5 (a b c d e:Nat):max (max (max (max (a:Int) b) c) d) e=((max (max (max (max a b) c) d) e:Nat):Int):=by omega
theorem bounded_any (B:Nat→Prop)(x:Ex)(c0 c1 c2 c3 c4 c5 c6 c7 c8:Value)(w:World)(hx:ExC B w x c0 c1 c2 c3 c4 c5 c6 c7 c8):
 Calls Tryz.prog 54 #[.agg #[c0,c1,c2,c3,c4,c5,c6,c7,c8]] w fun e w'=>e=.returned (.bool (boundedX x))∧Below w.heap.size w w':=by
 obtain⟨A4,k4,rfl,_⟩:=hx.eku
 obtain⟨A5,k5,rfl,_⟩:=hx.princs
 obtain⟨A6,k6,rfl,_⟩:=hx.permit
 obtain⟨A7,k7,rfl,_⟩:=hx.exclude
 obtain⟨A8,k8,rfl,_⟩:=hx.odd
 obtain rfl:=hx.has
 obtain rfl:=hx.ca
 obtain rfl:=hx.path
 obtain⟨L4,hL4⟩:=nm_ (x.eku.length)
 obtain⟨L5,hL5⟩:=nm_ (x.princs.length)
 obtain⟨L6,hL6⟩:=nm_ (x.permit.length)
 obtain⟨L7,hL7⟩:=nm_ (x.exclude.length)
 obtain⟨L8,hL8⟩:=nm_ (x.odd.length)
 obtain⟨h0,hh0⟩:=nm_ (x.hasCA)
 obtain⟨ca,hca⟩:=nm_ (x.ca)
 obtain⟨pa,hpa⟩:=nm_ (x.path)
 have hbx:boundedX x=(decide (L4≤16) && decide (L5≤16) && decide (L6≤16) && decide (L7≤16) && decide (L8≤16) && (if ca=true then h0 && decide (-1≤pa) && decide (pa≤100) else decide (pa=0))):=by
  unfold boundedX
  rw[hL4,hL5,hL6,hL7,hL8,hh0,hca,hpa]
 rw[hL4,hL5,hL6,hL7,hL8,hh0,hca,hpa]
 obtain⟨R,hR⟩:=nm_ (boundedX x)
 rw[hR] at hbx⊢
 obtain⟨W0,hW0⟩:=nm_ (w.alloc (.cells #[.bool h0,.bool ca,.int .i64 pa,c3,.slice A4 L4 k4,.slice A5 L5 k5,.slice A6 L6 k6,.slice A7 L7 k7,.slice A8 L8 k8] 30))
 have hb0:Below w.heap.size w W0:=by rw[←hW0];exact below_new _ _
 have q0:W0.heap[w.heap.size]? =some (.cells #[.bool h0,.bool ca,.int .i64 pa,c3,.slice A4 L4 k4,.slice A5 L5 k5,.slice A6 L6 k6,.slice A7 L7 k7,.slice A8 L8 k8] 30):=by rw[←hW0];exact heap_new_ _ _
 obtain⟨d0,d1,d2,d3,d4,d5,d6,d7,d8⟩:=box9 (br_ _ W0) q0
 have c3c:c3=.int .u16 x.usage:=hx.usage
 subst c3c
 have HR:=hd_ hbx
 have HB:=hd_ hb0
 obtain⟨m,hm⟩:=nm_ (max (max (max (max L4 L5) L6) L7) L8)
 have hmx:=max5 L4 L5 L6 L7 L8
 rw[hm] at hmx
 have hmrun:=fun W=>run_max5 (P:=Tryz.prog) #[3,3,3,3,3] 3 L4 L5 L6 L7 L8 m hm W
 by_cases hgr:16<m
 ·have hRf:R=false:=by
   rw[HR.out]
   have: ¬(L4≤16∧L5≤16∧L6≤16∧L7≤16∧L8≤16):=by omega
   cases e4:decide (L4≤16)<;>cases e5:decide (L5≤16)<;>cases e6:decide (L6≤16)<;>cases e7:decide (L7≤16)<;>cases e8:decide (L8≤16)<;>first |rfl | (simp only[decide_eq_true_eq] at e4 e5 e6 e7 e8;exact absurd ⟨e4,e5,e6,e7,e8⟩ this)
  subst hRf
  have hg:(16:Int)< (m:Int):=by omega
  clear hb0 q0 hbx HR hm hR hx hL4 hL5 hL6 hL7 hL8 hh0 hca hpa
  go_enter Tryz.func54,Tryz.ntmps54
  go_wp2
  go_ret
  exact⟨rfl,HB.out⟩
 ·have hl:L4≤16∧L5≤16∧L6≤16∧L7≤16∧L8≤16:=by omega
  have hRf:R=(if ca=true then h0 && decide (-1≤pa) && decide (pa≤100) else decide (pa=0)):=by
   rw[HR.out,decide_eq_true hl.1,decide_eq_true hl.2.1,decide_eq_true hl.2.2.1,decide_eq_true hl.2.2.2.1,decide_eq_true hl.2.2.2.2]
   rfl
  have hg: ¬(16:Int)< (m:Int):=by omega
  have HRF:=hd_ hRf
  clear hb0 q0 hbx HR hm hR hx hL4 hL5 hL6 hL7 hL8 hh0 hca hpa hl hgr hRf
  cases ca
  ·have hE:=HRF.out
   rw[if_neg (by decide)] at hE
   have HE:=hd_ hE
   have hpe:(pa==0)=decide (pa=0):=by rw[Bool.eq_iff_iff];simp
   clear hE HRF
   go_enter Tryz.func54,Tryz.ntmps54
   go_wp2
   go_ret
   exact⟨by rw[HE.out];first |rfl | (rw[←hpe];rfl),HB.out⟩
  ·have hE:=HRF.out
   rw[if_pos rfl] at hE
   have HE:=hd_ hE
   clear hE HRF
   cases h0
   ·go_enter Tryz.func54,Tryz.ntmps54
    go_wp2
    go_ret
    exact⟨by rw[HE.out];rfl,HB.out⟩
   ·by_cases hp1: -1≤pa
    ·go_enter Tryz.func54,Tryz.ntmps54
     go_wp2
     go_ret
     exact⟨by rw[HE.out,decide_eq_true hp1];first |rfl |simp,HB.out⟩
    ·have HE1:R=false:=by rw[HE.out,decide_eq_false hp1];rfl
     subst HE1
     have hp2:pa< -1:=by omega
     clear hp1 HE
     go_enter Tryz.func54,Tryz.ntmps54
     go_wp2
     go_ret
     exact⟨by simp[show¬ -1≤pa by omega],HB.out⟩
theorem oddsX_no {taken:List (List Int)}{xs:List Od}{i:Nat}{R:Bool}(hi:i<xs.length)(h:oddsX taken (xs.drop i)=R)(hn:(objB xs[i].oid && decide (xs[i].body.length≤1024) && !decide (xs[i].oid∈taken))=false):R=false:=by
 rw[←h,List.drop_eq_getElem_cons hi]
 unfold oddsX
 rw[hn,Bool.false_and]
theorem oddsX_yes {taken:List (List Int)}{xs:List Od}{i:Nat}{R:Bool}(hi:i<xs.length)(h:oddsX taken (xs.drop i)=R)(hn:(objB xs[i].oid && decide (xs[i].body.length≤1024) && !decide (xs[i].oid∈taken))=true):oddsX (taken++[xs[i].oid]) (xs.drop (i+1))=R:=by
 rw[←h,List.drop_eq_getElem_cons hi]
 conv=>rhs;unfold oddsX
 rw[hn,Bool.true_and]
theorem oddsX_end {taken:List (List Int)}{xs:List Od}{i:Nat}{R:Bool}(hi: ¬i<xs.length)(h:oddsX taken (xs.drop i)=R):R=true:=by
 rw[←h,List.drop_eq_nil_of_le (by omega)]
 unfold oddsX
 rfl
theorem known_take {i:Nat}(hi:i<5):knownOids.take i++[koid i]=knownOids.take (i+1):=by
 match i,hi with
 |0,_=>rfl
 |1,_=>rfl
 |2,_=>rfl
 |3,_=>rfl
 |4,_=>rfl
theorem ex0_cells (S:Nat→Prop)(w:World):ExC S w ex0 (.bool false) (.bool false) (.int .i64 0) (.int .u16 0) (.slice none 0 0) (.slice none 0 0) (.slice none 0 0) (.slice none 0 0) (.slice none 0 0):=
 ⟨rfl,rfl,rfl,by decide,rfl,by decide,LsC.nil,LsC.nil,LsC.nil,LsC.nil,LsC.nil⟩
theorem oddsRight_any (B:Nat→Prop)(A:Option Addr)(n c:Nat)(xs:List Od)(w:World)(hl:xs.length=n)(hL:Lst odE B w A xs)(hc:n≤c)(hm:c≤maxLen)(hn:n≤16):
 Calls Tryz.prog 55 #[.slice A n c] w fun e w'=>e=.returned (.bool (oddsX knownOids xs))∧Below w.heap.size w w':=by
 have h9:c≤9223372036854775807:=by unfold maxLen at hm;omega
 have hmf: ∀(fn:Fn) (first cap:Array Value) (w:World),(Instr.makeFunc fn first cap).run Tryz.prog w=.ok (.func fn first cap) w:=fun _ _ _ _=>rfl
 obtain⟨R,hR⟩:=nm_ (oddsX knownOids xs)
 rw[hR]
 have hbz:=below_new w (.cells #[.bool false,.bool false,.int .i64 0,.int .u16 0,.slice none 0 0,.slice none 0 0,.slice none 0 0,.slice none 0 0,.slice none 0 0] 30)
 have HKI:=hd_ (kinds_any (fun _=>True) ex0 w.heap.size _ _ _ _ _ _ _ _ _ (w.alloc (.cells #[.bool false,.bool false,.int .i64 0,.int .u16 0,.slice none 0 0,.slice none 0 0,.slice none 0 0,.slice none 0 0,.slice none 0 0] 30)) (heap_new_ _ _) (ex0_cells _ _))
 have HBZ:=hd_ hbz
 have HL:=hd_ (ai_ hl (ai_ hL (show oddsX knownOids (xs.drop 0)=R from hR)))
 clear hl hL hR hbz hm
 go_enter Tryz.func55,Tryz.ntmps55
 go_wp2_with fail
 refine HKI.out.mono ?_
 rintro e W1 ⟨hb1,G,q,rfl,hK⟩
 have HB1:=hd_ (ai_ (below_then HBZ.out hb1 (lr_ _)) hK)
 clear hb1 hK HKI HBZ
 go_wp2_with fail
 go_loopg [3,14] 6 (fun gk s3 s14 wx=>∃(i:Nat) (Av:Option Addr) (cv:Nat),s3=.slice Av i cv∧s14=.int .i64 i∧i≤5∧5 - i<gk∧Hid (LInv inE 83 (fun _=>True) W1 (.slice Av i cv) (knownOids.take i) wx))
 case atStart=>exact⟨0,none,0,rfl,rfl,by omega,by omega,hd_ LInv.start⟩
 case round=>
  obtain⟨i,Av,cv,rfl,rfl,hi,hgk,HI⟩:=hrel
  by_cases hlt:i<5
  ·have hltz:(i:Int)<5:=by omega
   obtain⟨gk',rfl⟩: ∃g',gk=g'+1:=⟨gk - 1,by omega⟩
   have HN:=hd_ (ai_ (show i+1≤5 from hlt) (show 5 - (i+1)<gk' by omega))
   obtain⟨A1,c1,hin,e0,e1,e2,e3,e4⟩:=(HB1.out.2.below HI.out.bel).row i hlt
   have hkl:(knownOids.take i).length=i:=by rw[List.length_take];have:knownOids.length=5:=rfl;omega
   have hbx:=below_new wr (.cells #[.slice A1 4 c1,.bool (kcrit i),.bool (kthere ex0 i),.func (.func (saysId i)) #[] #[.pointer (some ⟨q,0,none⟩)],.func (.func (readId i)) #[] #[.pointer (some ⟨q,0,none⟩)]] 99)
   have hby:=below_new (wr.alloc (.cells #[.slice A1 4 c1,.bool (kcrit i),.bool (kthere ex0 i),.func (.func (saysId i)) #[] #[.pointer (some ⟨q,0,none⟩)],.func (.func (readId i)) #[] #[.pointer (some ⟨q,0,none⟩)]] 99)) (.cells #[.slice A1 4 c1] 83)
   have hin0:=(HB1.out.2.row i hlt)
   have hold:inE.hold (fun g=>True∧(g<W1.heap.size∨wr.heap.size≤g)) ((wr.alloc (.cells #[.slice A1 4 c1,.bool (kcrit i),.bool (kthere ex0 i),.func (.func (saysId i)) #[] #[.pointer (some ⟨q,0,none⟩)],.func (.func (readId i)) #[] #[.pointer (some ⟨q,0,none⟩)]] 99)).alloc (.cells #[.slice A1 4 c1] 83)) (koid i) [.slice A1 4 c1]:=by
    obtain⟨A1',c1',hin',e0',_⟩:=hin0
    have e0'':=cell_on HI.out.bel e0'
    rw[e0] at e0''
    cases e0''
    exact⟨_,rfl,((hin'.bound.below HI.out.bel).below (below_then hbx hby (lr_ _))).mono (fun g hg=>⟨trivial,.inl hg.2⟩)⟩
   obtain⟨A7,c7,w7,hrun,hI7⟩:=HI.out.push Tryz.infI (fun _ _=>trivial) (below_then hbx hby (lr_ _)) (x:=koid i) (news:=[.slice A1 4 c1]) hold (g1:=wr.heap.size+1) (by omega) (by
    have:=heap_new_ (wr.alloc (.cells #[.slice A1 4 c1,.bool (kcrit i),.bool (kthere ex0 i),.func (.func (saysId i)) #[] #[.pointer (some ⟨q,0,none⟩)],.func (.func (readId i)) #[] #[.pointer (some ⟨q,0,none⟩)]] 99)) (.cells #[.slice A1 4 c1] 83)
    rwa[size_new] at this) (fun j u hu=>by simpa using hu) (by rw[hkl];omega) (by rw[hkl];unfold maxLen;omega)
   rw[hkl] at hrun hI7
   rw[known_take hlt] at hI7
   have HI7:=hd_ hI7
   clear hI7 hin hin0 hold hkl hbx hby hgk
   go_wp2_with (at_builtin;refine wpl_append rfl (.tmp 18) (.tmp 21) 25 rfl _ _ _ rfl rfl hrun ?_)
   clear hrun e0 e1 e2 e3 e4
   go_wp2
   go_roundg gk'
   case measure=>omega
   case rel=>exact⟨i+1,A7,c7,rfl,by go_num,HN.out.1,HN.out.2,HI7⟩
  ·obtain rfl:i=5:=by omega
   have HI5:=hd_ (show LInv inE 83 (fun _=>True) W1 (.slice Av 5 cv) knownOids wr from HI.out)
   clear HI hgk hi hlt
   go_wp2_with fail
   go_loopg [3,26] (n+1) (fun gk s3 s26 wx=>∃(i:Nat) (Av:Option Addr) (cv:Nat),s3=.slice Av (5+i) cv∧s26=.int .i64 i∧i≤n∧n - i<gk∧Hid (∃T:List (List Int),T.length=5+i∧oddsX T (xs.drop i)=R∧LInv inE 83 (fun _=>True) W1 (.slice Av (5+i) cv) T wx))
   case atStart=>exact⟨0,Av,cv,rfl,rfl,by omega,by omega,hd_ ⟨knownOids,rfl,HL.out.2.2,HI5.out⟩⟩
   case round=>
    clear HI5
    obtain⟨i,Av,cv,rfl,rfl,hi,hgk,HI⟩:=hrel
    by_cases hlt:i<n
    ·have hltz:(i:Int)< (n:Int):=by omega
     obtain⟨gk',rfl⟩: ∃g',gk=g'+1:=⟨gk - 1,by omega⟩
     have HN:=hd_ (ai_ (show i+1≤n from hlt) (show n - (i+1)<gk' by omega))
     have hix:i<xs.length:=by rw[HL.out.1];exact hlt
     obtain⟨T,hT1,hT2,hT3⟩:=HI.out
     have hbw:=below_then HB1.out.1 hT3.bel (lr_ _)
     obtain⟨g,off,cs,rfl,_,hcell,d0,d1,d2,rfl,⟨A1,l1,k1,rfl,i1,i2,i3,i4⟩,rfl,A2,l2,k2,rfl,j1,j2,j3,j4⟩:=(HL.out.2.1.below hbw).at i hix
     have e0:=hcell 0 _ rfl
     have e1:=hcell 1 _ rfl
     have e2:=hcell 2 _ rfl
     rw[show odE.sz=3 from rfl] at e0 e1 e2
     rw[Nat.add_zero] at e0
     obtain⟨o,ho⟩:=nm_ (xs[i])
     have hno:=fun(h:(objB o.oid && decide (o.body.length≤1024) && !decide (o.oid∈T))=false)=>oddsX_no hix hT2 (by rw[ho];exact h)
     have hyes:=fun(h:(objB o.oid && decide (o.body.length≤1024) && !decide (o.oid∈T))=true)=>oddsX_yes hix hT2 (by rw[ho];exact h)
     rw[ho] at i3 j3 hyes e1
     obtain⟨b1,hb1⟩:=nm_ (o.crit)
     rw[hb1] at e1
     have hlen:o.body.length=l2:=j3.1
     have hbx:=below_new wr (.cells #[.slice A1 l1 k1,.bool b1,.slice A2 l2 k2] 102)
     have hqx:=heap_new_ wr (.cells #[.slice A1 l1 k1,.bool b1,.slice A2 l2 k2] 102)
     have hput:=putOID_any A1 l1 k1 o.oid (wr.alloc (.cells #[.slice A1 l1 k1,.bool b1,.slice A2 l2 k2] 102)) (i3.below hbx) i1 i2
     have HP:=hd_ hput
     have HOB:=hd_ (show g<w.heap.size∨True from .inr trivial)
     have HT:=hd_ (ai_ hT1 (ai_ hT3 (ai_ hno (ai_ hyes (ai_ i3 (ai_ hlen (ai_ i1 (ai_ i2 i4))))))))
     have HX:=hd_ (ai_ hbx hqx)
     obtain⟨ys,hys⟩:=nm_ ((putO o.oid).1)
     rw[hys] at HP
     have hI1: ∀g' off' sp',0<l1→A1=some ⟨g',off',sp'⟩→g'<wr.heap.size:=fun g' off' sp' h0 e=>by
      obtain⟨b',o',e',hb',_⟩:=i3.2.2 h0
      rw[e'] at e;cases e;exact hb'
     have hOld:Ins w A1 l1 o.oid:=by
      obtain⟨g2,off2,cs2,e2',_,hcell2,w0,w1,w2,rfl,⟨A1',l1',k1',rfl,_,_,i3',_⟩,rfl,A2',l2',k2',rfl,_⟩:=HL.out.2.1.at i hix
      cases e2'
      have z0:=cell_on hbw (hcell2 0 _ rfl)
      rw[show odE.sz=3 from rfl,Nat.add_zero,e0] at z0
      cases z0
      rw[ho] at i3'
      exact i3'
     have HOLD:=hd_ hOld
     clear hput hcell hT1 hT2 hT3 hno hyes i1 i2 i3 i4 j1 j2 j3 j4 hbx hqx hgk hlen hys hI1 hOld hbw
     go_wp2_with fail
     refine HP.out.mono ?_
     rintro e w2 ⟨A3,c3,rfl,hh,hb2⟩
     have hbx2:=below_then HX.out.1 hb2 (lr_ _)
     have hq2:=(hb2.block _ (Array.getElem?_eq_some_iff.1 HX.out.2).1).trans HX.out.2
     obtain⟨u0,u1,u2⟩:=box_nd (br_ _ w2) hq2
     have HB2:=hd_ (ai_ hbx2 hq2)
     clear hh hb2 hbx2 hq2 HP HX e0 e1 e2
     cases hob:objB o.oid
     ·have hpe:(putO o.oid).2=22:=by rw[putO_no hob]
      rw[hpe]
      have hRf:=HT.out.2.2.1 (by rw[hob,Bool.false_and,Bool.false_and])
      subst hRf
      have HF:=hd_ (below_then (below_then HB1.out.1 HT.out.2.1.bel (lr_ _)) HB2.out.1 (lr_ _))
      clear HT HI HOLD HB2 hob hpe ho hb1
      go_wp2
      go_ret
      exact⟨rfl,HF.out⟩
     ·have hpe:(putO o.oid).2=0:=by rw[putO_yes hob]
      rw[hpe]
      by_cases hl2:l2≤1024
      ·have hl2z: ¬(1024:Int)< (l2:Int):=by omega
       obtain⟨A4,c4,e4,k41,k42,hLT⟩:=HT.out.2.1.row.lst (fun _ _=>trivial)
       rw[HT.out.1] at e4 k41
       simp only[Value.slice.injEq] at e4
       obtain⟨rfl,_,rfl⟩:=e4
       have hcon:=contains_any (fun _=>True) Av A1 (5+i) cv l1 k1 T o.oid (.bool b1) (.slice A2 l2 k2) wr.heap.size w2 HT.out.1 (hLT.below HB2.out.1) k41 k42 (HOLD.out.below (below_then (below_then HB1.out.1 HT.out.2.1.bel (lr_ _)) HB2.out.1 (lr_ _))) HB2.out.2
       obtain⟨bc,hbc⟩:=nm_ (decide (o.oid∈T))
       rw[hbc] at hcon
       have HC:=hd_ hcon
       have HBC:=hd_ hbc
       have HOB2:=hd_ hob
       clear hcon hLT k41 k42 hbc hpe hob
       go_wp2_with fail
       refine HC.out.mono ?_
       rintro e w3 ⟨rfl,hb3⟩
       cases bc
       ·have hS:=HT.out.2.2.2.1 (by rw[HOB2.out,HBC.out,HT.out.2.2.2.2.2.1,decide_eq_true hl2];rfl)
        have hb23:=below_then HB2.out.1 hb3 (lr_ _)
        have hq3:=(hb3.block _ (Array.getElem?_eq_some_iff.1 HB2.out.2).1).trans HB2.out.2
        clear u0 u1 u2
        obtain⟨u0,u1,u2⟩:=box_nd (br_ _ w3) hq3
        have hby:=below_new w3 (.cells #[.slice A1 l1 k1] 83)
        have hold:inE.hold (fun g=>True∧(g<W1.heap.size∨wr.heap.size≤g)) (w3.alloc (.cells #[.slice A1 l1 k1] 83)) o.oid [.slice A1 l1 k1]:=by
         refine⟨_,rfl,A1,l1,k1,rfl,HT.out.2.2.2.2.2.2.1,HT.out.2.2.2.2.2.2.2.1,HT.out.2.2.2.2.1.below (below_then hb23 hby (lr_ _)),fun h0 g' off' sp' e=>⟨trivial,.inl ?_⟩⟩
         obtain⟨b',o',e',hb',_⟩:=HOLD.out.2.2 h0
         rw[e'] at e;cases e
         exact Nat.lt_of_lt_of_le hb' HB1.out.1.size
        obtain⟨A7,c7,w7,hrun,hI7⟩:=HT.out.2.1.push Tryz.infI (fun _ _=>trivial) (below_then hb23 hby (lr_ _)) (x:=o.oid) (news:=[.slice A1 l1 k1]) hold (g1:=w3.heap.size) hb23.size (heap_new_ _ _) (fun j u hu=>by simpa using hu) (by rw[HT.out.1];omega) (by rw[HT.out.1];unfold maxLen;omega)
        rw[HT.out.1] at hrun hI7
        have HI7:=hd_ (show∃T':List (List Int),T'.length=5+ (i+1)∧oddsX T' (xs.drop (i+1))=R∧LInv inE 83 (fun _=>True) W1 (.slice A7 (5+ (i+1)) c7) T' w7 from⟨_,by rw[List.length_append,HT.out.1];rfl,hS,hI7⟩)
        clear hI7 hS hb23 hq3 hby hold HT HI HOLD HB2 HC hb3 HBC ho hb1
        rw[show 5+i+1=5+ (i+1) by omega] at hrun
        go_wp2_with (at_builtin;refine wpl_append rfl (.tmp 47) (.tmp 50) 25 rfl _ _ _ rfl rfl hrun ?_)
        clear hrun u0 u1 u2
        go_wp2
        go_roundg gk'
        case measure=>omega
        case rel=>exact⟨i+1,A7,c7,rfl,by go_num,HN.out.1,HN.out.2,HI7⟩
       ·have hRf:=HT.out.2.2.1 (by rw[HOB2.out,HBC.out,HT.out.2.2.2.2.2.1,decide_eq_true hl2];rfl)
        subst hRf
        have HF:=hd_ (below_then (below_then (below_then HB1.out.1 HT.out.2.1.bel (lr_ _)) HB2.out.1 (lr_ _)) hb3 (lr_ _))
        clear HT HI HOLD HB2 HC hb3 HBC ho hb1 u0 u1 u2
        go_wp2
        go_ret
        exact⟨rfl,HF.out⟩
      ·have hl2z:(1024:Int)< (l2:Int):=by omega
       have hRf:=HT.out.2.2.1 (by rw[hob,HT.out.2.2.2.2.2.1,decide_eq_false hl2];rfl)
       subst hRf
       have HF:=hd_ (below_then (below_then HB1.out.1 HT.out.2.1.bel (lr_ _)) HB2.out.1 (lr_ _))
       clear HT HI HOLD HB2 hob hpe ho hb1
       go_wp2
       go_ret
       exact⟨rfl,HF.out⟩
    ·obtain rfl:n=i:=by omega
     have hltz: ¬(n:Int)< (n:Int):=by omega
     obtain⟨T,hT1,hT2,hT3⟩:=HI.out
     have hR:=oddsX_end (by rw[HL.out.1];omega) hT2
     subst hR
     have HF:=hd_ (below_then HB1.out.1 hT3.bel (lr_ _))
     clear hT1 hT2 hT3 HI hgk
     go_wp2
     go_ret
     exact⟨rfl,HF.out⟩
end Go.Proofs.YtkjkhoglkpepiaaGreatDoor.nmc
