/- The document's parts of lists: nodes of times, of numbers and of handles, and what nodes tell. -/
import Derived.Test.YtconbejjagcnkaaGreatDoorWf
import Derived.Test.YtconbejjagcnkaaGreatDoorXh
import Derived.Test.YtconbejjagcnkaaGreatDoorYd
import Derived.Test.YtconbejjagcnkaaGreatDoorPc
set_option maxRecDepth 100000
set_option maxHeartbeats 16000000
set_option linter.unusedVariables false
set_option linter.unusedSimpArgs false
namespace Go.Proofs.YtconbejjagcnkaaGreatDoor.vtc
open Go.RowKit tlvc tlvd ndc txc txm intc intm nmc
theorem app_longz (w:World)(base:Nat)(v:Value)(n:Nat)(cs:List Value)(hown:w.ownsRow base 5 1 v n cs)(A:Option Addr)(m c:Nat)(ys:List Int)(hb:Bys w A m ys)(hn:n+m≤140737488355328)(hbase:base≤w.heap.size):
    ∃v' w',(Builtin.append_ #[28,28] 28 #[v,.slice A m c]).run Tryz.prog w=.ok v' w'∧w'.ownsRow base 5 1 v' (n+m) (cs++vals ys)∧w.grownBy w' v.ownBlock∧(v'.ownBlock=v.ownBlock∨ ∃g',v'.ownBlock=some g'∧w.heap.size≤g'):=by
  obtain⟨i0,hi,hz0,hz1,hz2⟩:=info_parts intc.Tryz.info5
  rcases A with _ |ad
  · have hm:m=0:=by
      rcases Nat.eq_zero_or_pos m with h0 |h0
      · exact h0
      · obtain⟨b,off,h,_⟩:=hb.2.2 h0
        cases h
    subst hm
    have hn:ys=[]:=List.eq_nil_of_length_eq_zero hb.1
    subst hn
    exact⟨v,w,run_app_nil w base 28 28 5 i0 Tryz.underlying28 hi v n cs hown c,by simpa[vals] using hown,World.grownBy.refl w _,.inl rfl⟩
  · obtain⟨v',w',h1,h2,h3,_,h5⟩:=app_gen (P:=Tryz.prog) w base 28 28 5 i0 (.int .u8 0) 1 1 Tryz.underlying28 hi hz0 hz1 hz2 rfl (by decide) v n cs hown ad m c (vals ys) (by rw[vals_length,hb.1];omega)
      (fun j u hu=>by
        have hj:j<ys.length:=by
          have:=(List.getElem?_eq_some_iff.1 hu).1
          rwa[vals_length] at this
        obtain⟨b,off,h,_,hc⟩:=hb.2.2 (by have:=hb.1;omega)
        cases h
        rw[Addr.add_lit,hc j (by have:=hb.1;omega),←hu]
        simp[vals,List.getD_eq_getElem?_getD,List.getElem?_eq_getElem hj]) (vals_one ys) (by unfold maxLen;omega) (by omega) hbase
    exact⟨v',w',h1,h2,h3,h5⟩
theorem app_one (w:World)(base:Nat)(v:Value)(n:Nat)(cs:List Value)(hown:w.ownsRow base 5 1 v n cs)(b:Int)(hb:0≤b∧b≤255)(hn:n+1≤140737488355328)(hbase:base≤w.heap.size):
    ∃v' w',(Builtin.append_ #[28,28] 28 #[v,.slice (some ⟨w.heap.size,0,none⟩) 1 1]).run Tryz.prog (w.alloc (.cells #[.int .u8 b] 5))=.ok v' w'∧w'.ownsRow base 5 1 v' (n+1) (cs++vals [b])∧Below base w w':=by
  have hnew:=heap_new_ w (.cells #[.int .u8 b] 5)
  have hby:Bys (w.alloc (.cells #[.int .u8 b] 5)) (some ⟨w.heap.size,0,none⟩) 1 [b]:=⟨rfl,fun x hx=>by rw[List.mem_singleton.1 hx];omega,fun _=>⟨w.heap.size,0,rfl,by simp,fun j hj=>by
    obtain rfl:j=0:=by omega
    rw[Lib.cell_of_heap hnew]
    rfl⟩⟩
  obtain⟨v',w',h1,h2,h3,_⟩:=app_longz (w.alloc (.cells #[.int .u8 b] 5)) base v n cs (own_below hown (ndc.below_new _ _)) (some ⟨w.heap.size,0,none⟩) 1 1 [b] hby (by omega) (by simp;omega)
  exact⟨v',w',h1,h2,((ndc.below_new w _).mono hbase).grown h3 (by simp;omega) fun j hj=>(hown.lt j hj).1⟩
theorem rnumber_yes (b off c:Nat)(xs:List Int)(w:World)(hb:Bys w (some ⟨b,off,none⟩) 8 xs)(hc:8≤c)(hm:c≤9223372036854775807)(h0:xs.getD 0 0=193)(h1:xs.getD 1 0=94):
    Calls Tryz.prog 62 #[.slice (some ⟨b,off,none⟩) 8 c] w (NumPost w (numF xs)):=by
  obtain⟨b',off',e,_,hcell⟩:=hb.2.2 (by omega)
  cases e
  have hfit:=hb.fit
  rw[numF_yes ⟨hb.len,h0,h1⟩]
  have c0:=hcell 0 (by omega)
  have c1:=hcell 1 (by omega)
  rw[h0,Nat.add_zero] at c0
  rw[h1] at c1
  have HC:=Lib.hid hcell
  have HF:=Lib.hid hfit
  obtain⟨R,hR⟩: ∃x,accF xs 6=x:=⟨_,rfl⟩
  rw[hR]
  have HR:=Lib.hid hR
  clear hcell hfit hb hR
  go_enter Tryz.func62,Tryz.ntmps62
  go_wp2_with fail
  go_loopg [4,5] 8 (fun gk s4 s5 wx=>∃(i:Nat),s4=.int .i64 (accF xs i)∧s5=.int .i64 ((2+i:Nat):Int)∧i≤6∧7 - i≤gk∧wx=w)
  case atStart=>exact⟨0,rfl,rfl,by omega,by omega,rfl⟩
  case round=>
    obtain⟨i,rfl,rfl,hi,hgk,rfl⟩:=hrel
    by_cases hlt:i<6
    · have hltz:((2+i:Nat):Int)<8:=by omega
      have hltn:2+i<8:=by omega
      obtain⟨gk',rfl⟩: ∃g',gk=g'+1:=⟨gk - 1,by omega⟩
      have e1:wr.cell? ⟨b,off+ (2+i),none⟩=some (.int .u8 (xs.getD (2+i) 0)):=HC.out (2+i) (by omega)
      have hx:=HF.out.getD (2+i)
      have hbd:=accF_bd HF.out i
      have hp:=pow_le6 (show i≤5 by omega)
      have hs:accF xs (i+1)=accF xs i*256+xs.getD (2+i) 0:=rfl
      obtain⟨x,hxe⟩: ∃x,xs.getD (2+i) 0=x:=⟨_,rfl⟩
      obtain⟨a,hae⟩: ∃x,accF xs i=x:=⟨_,rfl⟩
      rw[hxe] at e1 hx hs
      rw[hae] at hbd hs⊢
      have hw:=IntWalk.i64_in (a*256) (by omega)
      have hor:=or_i64 8 (by decide) (a*256) x (by unfold I64;omega) (by omega) (by omega) (by omega)
      obtain⟨p,hpe⟩: ∃p,2+i=p:=⟨_,rfl⟩
      have HPE:=Lib.hid hpe
      rw[hpe] at hltz hltn e1⊢
      have HS:=Lib.hid hs
      have HG:=Lib.hid hgk
      clear hs hxe hae hbd hp hgk hpe
      go_wp2
      go_roundg gk'
      case measure=>omega
      case rel=>exact⟨i+1,by rw[HS.out],by have:=HPE.out;go_num,by omega,by have:=HG.out;omega,rfl⟩
    · have hltz: ¬((2+i:Nat):Int)<8:=by omega
      obtain rfl:i=6:=by omega
      have hR:=HR.out
      rw[hR]
      go_wp2
      go_ret2
      exact⟨rfl,rfl⟩
theorem rnumber_any (A:Option Addr)(n c:Nat)(xs:List Int)(w:World)(hb:Bys w A n xs)(hc:n≤c)(hm:c≤maxLen):
    Calls Tryz.prog 62 #[.slice A n c] w (NumPost w (numF xs)):=by
  have hm9:c≤9223372036854775807:=by unfold maxLen at hm;omega
  by_cases h8:n=8
  · subst h8
    obtain⟨b,off,rfl,_,hcell⟩:=hb.2.2 (by omega)
    by_cases h0:xs.getD 0 0=193
    · by_cases h1:xs.getD 1 0=94
      · exact rnumber_yes b off c xs w hb hc hm9 h0 h1
      · rw[numF_no fun h=>h1 h.2.2]
        have c0:=hcell 0 (by omega)
        have c1:=hcell 1 (by omega)
        rw[h0,Nat.add_zero] at c0
        obtain⟨x,hx⟩: ∃x,xs.getD 1 0=x:=⟨_,rfl⟩
        rw[hx] at c1 h1
        clear hcell hb h0 hx
        go_enter Tryz.func62,Tryz.ntmps62
        go_wp2
        go_ret2
        exact⟨rfl,rfl⟩
    · rw[numF_no fun h=>h0 h.2.1]
      have c0:=hcell 0 (by omega)
      rw[Nat.add_zero] at c0
      obtain⟨x,hx⟩: ∃x,xs.getD 0 0=x:=⟨_,rfl⟩
      rw[hx] at c0 h0
      clear hcell hb hx
      go_enter Tryz.func62,Tryz.ntmps62
      go_wp2
      go_ret2
      exact⟨rfl,rfl⟩
  · rw[numF_no fun h=>h8 (hb.len.symm.trans h.1)]
    have h8z: ¬(n:Int)=8:=by omega
    clear hb
    go_enter Tryz.func62,Tryz.ntmps62
    go_wp2
    go_ret2
    exact⟨rfl,rfl⟩
theorem hbF_at {n:Int}(h:0≤n∧n<281474976710656)(j:Nat)(hj:j<6):(hbF n).take (2+j+1)=(hbF n).take (2+j)++[(hbF n).getD (2+j) 0]:=by
  rw[List.take_succ_eq_append_getElem (by rw[hbF_len h];omega),List.getD_eq_getElem?_getD,List.getElem?_eq_getElem (by rw[hbF_len h];omega)]
  rfl
theorem rbytes_yes (n:Int)(w:World)(h:0≤n∧n<281474976710656):Calls Tryz.prog 49 #[.int .i64 n] w (BysPost w (hbF n)):=by
  obtain⟨h0,h1⟩:=h
  have HH:=Lib.hid (And.intro h0 h1)
  have h0z: ¬n<0:=by omega
  have h1z: ¬281474976710656≤n:=by omega
  have hst:(w.alloc (.cells #[.int .u8 193,.int .u8 94] 5)).ownsRow w.heap.size 5 1 (.slice (some ⟨w.heap.size,0,none⟩) 2 2) (2+0) (vals ((hbF n).take (2+0)))∧Below w.heap.size w (w.alloc (.cells #[.int .u8 193,.int .u8 94] 5)):=by
    refine⟨?_,ndc.below_new _ _⟩
    rw[hbF_yes ⟨h0,h1⟩]
    exact World.ownsRow_lit w #[.int .u8 193,.int .u8 94] 2 (Nat.le_refl _) (by decide) rfl
  have HS:=Lib.hid hst
  clear hst h0 h1
  go_enter Tryz.func49,Tryz.ntmps49
  go_wp2_with fail
  clear h0z h1z
  go_loopg [3,4] 8 (fun gk s3 s4 wx=>∃(j:Nat) (vk:Value),s3=vk∧s4=.int .i64 (5 - (j:Int))∧j≤6∧7 - j≤gk∧Hid (wx.ownsRow w.heap.size 5 1 vk (2+j) (vals ((hbF n).take (2+j)))∧Below w.heap.size w wx))
  case atStart=>exact⟨0,_,rfl,rfl,by omega,by omega,HS⟩
  case round=>
    obtain⟨j,vk,hvk,rfl,hj,hgk,HI⟩:=hrel
    obtain rfl:=hvk.symm
    by_cases hlt:j<6
    · obtain⟨gk',rfl⟩: ∃g',gk=g'+1:=⟨gk - 1,by omega⟩
      have hx:=(hbF_fit n).getD (2+j)
      obtain⟨v2,w2,hrun,g1,g2⟩:=app_one wr w.heap.size vk (2+j) _ HI.out.1 ((hbF n).getD (2+j) 0) hx (by omega) HI.out.2.size
      rw[←vals_append,←hbF_at HH.out j hlt] at g1
      have HI2:=Lib.hid (And.intro g1 (HI.out.2.trans g2))
      have hyes:=hbF_yes HH.out
      clear g1 g2 hx
      obtain rfl |rfl |rfl |rfl |rfl |rfl:j=0∨j=1∨j=2∨j=3∨j=4∨j=5:=by omega
      all_goals
        rw[hyes] at hrun
        simp only[List.getD_cons_succ,List.getD_cons_zero,Nat.reduceAdd] at hrun
        clear hyes
        go_wp2_with (at_builtin;refine wpl_append rfl (.tmp 16) (.tmp 22) 28 rfl _ _ _ rfl rfl hrun ?_)
        clear hrun
        go_wp2
        go_roundg gk'
        case measure=>omega
        case rel=>first |exact⟨1,v2,rfl,rfl,by omega,by omega,HI2⟩ |exact⟨2,v2,rfl,rfl,by omega,by omega,HI2⟩ |exact⟨3,v2,rfl,rfl,by omega,by omega,HI2⟩ |exact⟨4,v2,rfl,rfl,by omega,by omega,HI2⟩ |exact⟨5,v2,rfl,rfl,by omega,by omega,HI2⟩ |exact⟨6,v2,rfl,rfl,by omega,by omega,HI2⟩
    · obtain rfl:j=6:=by omega
      have hI:=HI.out
      rw[List.take_of_length_le (by rw[hbF_len HH.out];omega)] at hI
      obtain⟨Af,cf,rfl,q1,q2,_⟩:=own_shape hI.1
      have HE:=Lib.hid (And.intro (Bys.own hI.1 (hbF_fit n)) (And.intro (And.intro q1 q2) hI.2))
      have HL:=Lib.hid (hbF_len HH.out)
      clear hI HI q1 q2
      go_wp2
      go_ret
      exact⟨Af,cf,by rw[HL.out];rfl,by rw[HL.out];exact HE.out.1,by rw[HL.out];exact HE.out.2.1,HE.out.2.2⟩
theorem rbytes_any (n:Int)(w:World):Calls Tryz.prog 49 #[.int .i64 n] w (BysPost w (hbF n)):=by
  by_cases h:0≤n∧n<281474976710656
  · exact rbytes_yes n w h
  · rw[hbF_none h]
    by_cases h0:n<0
    · go_enter Tryz.func49,Tryz.ntmps49
      go_wp2
      go_ret
      exact nil_post _
    · have h1:281474976710656≤n:=by omega
      go_enter Tryz.func49,Tryz.ntmps49
      go_wp2
      go_ret
      exact nil_post _
end Go.Proofs.YtconbejjagcnkaaGreatDoor.vtc
namespace Go.Proofs.YtconbejjagcnkaaGreatDoor.nmc
open Go.RowKit tlvc tlvd ndc txc txm intc intm vtc
def intOK (n:Nd):Bool:=decide ((intF n.body).2=0) && plainB n 2
theorem nd_len' {S:Nat→Prop}{w:World}{n:Nd}{c0 c1:Value}{K:Option Addr}{lk ck:Nat}(h:NdC S w n c0 c1 (.slice K lk ck)):lk=n.kids.length:=by
 obtain⟨t,b,ks⟩:=n
 obtain⟨_,_,_,K',ck',e,_⟩:=NdC.kidsL h
 simp only[Value.slice.injEq] at e
 exact e.2.1
theorem rint_any (n:Int)(w:World)(hn:I64 n):
    Calls Tryz.prog 45 #[.int .i64 n] w (NVal (fun g=>w.heap.size≤g) w (.mk 2 (putI n) [])):=by
  obtain⟨W0,hW0⟩: ∃x,w.alloc (.cells #[.int .u8 0,.slice none 0 0,.slice none 0 0] 40)=x:=⟨_,rfl⟩
  have hb0:Below w.heap.size w W0:=by rw[←hW0];exact below_new _ _
  have p0:W0.heap[w.heap.size]? =some (.cells #[.int .u8 0,.slice none 0 0,.slice none 0 0] 40):=by rw[←hW0];exact heap_new_ _ _
  have hz0:W0.heap.size=w.heap.size+1:=by rw[←hW0];simp
  have hput:=refPutInt_any n W0 hn
  have HC:=Lib.hid hput
  have HB:=Lib.hid (And.intro hb0 (And.intro p0 hz0))
  obtain⟨ys,hys⟩: ∃x,putI n=x:=⟨_,rfl⟩
  rw[hys] at HC⊢
  clear hput hb0 p0 hz0 hys
  go_enter Tryz.func45,Tryz.ntmps45
  go_wp2_with fail
  refine HC.out.mono ?_
  rintro e w1 ⟨A1,c1,rfl,hh,hb1⟩
  have hz:=HB.out.2.2
  have p1:=(hb1.block w.heap.size (by omega)).trans HB.out.2.1
  have hB1:=below_then HB.out.1 hb1 (Nat.le_refl _)
  have hnd:NdC (fun g=>w.heap.size<g) w1 (.mk 2 ys []) (.int .u8 2) (.slice A1 ys.length c1) (.slice none 0 0):=ndC_leaf (by omega) hh.2.1 hh.2.2.1 hh.1 (fun hn g off sp e=>by
    obtain⟨b',off',e',hb',_⟩:=hh.1.2.2 hn
    have:=hh.2.2.2 b' off' e'
    rw[e'] at e;cases e;omega)
  obtain⟨r0,r1,r2,hB⟩:=res3 (y0:=.int .u8 2) (y1:=.slice A1 ys.length c1) (y2:=.slice none 0 0) (Nat.le_refl _) hB1 p1
  have hn2:=res3_nd (b:=w.heap.size) (y0:=.int .u8 2) (y1:=.slice A1 ys.length c1) (y2:=.slice none 0 0) (fun g hg=>by omega) hnd
  have f0:=Lib.frozen_of_heap p1 0
  have f1:=Lib.frozen_of_heap p1 1
  have f2:=Lib.frozen_of_heap p1 2
  have s0:=(Lib.cell_of_heap p1 0).trans rfl
  have s1:=(Lib.cell_of_heap p1 1).trans rfl
  have s2:=(Lib.cell_of_heap p1 2).trans rfl
  have HE:=Lib.hid (And.intro hB (NdC.mono (B':=fun g=>w.heap.size≤g) (fun g hg=>by omega) _ _ _ _ hn2))
  clear hB hn2 hnd p1 hB1 hh hb1 HC HB hz
  go_wp2_with fail
  refine bodyPost_ret (v:=.agg #[.int .u8 2,.slice A1 ys.length c1,.slice none 0 0]) ?_ rfl ⟨HE.out.1,_,_,_,_,_,_,_,rfl,HE.out.2⟩
  simp[results,Tryz.results45,go_sem,r0,r1,r2]
theorem roctets_any (A:Option Addr)(n c:Nat)(xs:List Int)(w:World)(hx:Bys w A n xs)(hc:n≤c)(hm:c≤maxLen)(hf:n≤140737488351232):
    Calls Tryz.prog 48 #[.slice A n c] w (NVal (fun g=>w.heap.size≤g) w (.mk 4 xs [])):=by
  obtain⟨W0,hW0⟩: ∃x,w.alloc (.cells #[.int .u8 0,.slice none 0 0,.slice none 0 0] 40)=x:=⟨_,rfl⟩
  have hb0:Below w.heap.size w W0:=by rw[←hW0];exact below_new _ _
  have p0:W0.heap[w.heap.size]? =some (.cells #[.int .u8 0,.slice none 0 0,.slice none 0 0] 40):=by rw[←hW0];exact heap_new_ _ _
  have hz0:W0.heap.size=w.heap.size+1:=by rw[←hW0];simp
  obtain⟨v3,w3,hrun,hown3,hg3,hob3⟩:=vtc.app_longz (W0.alloc (.cells #[] 5)) W0.heap.size (.slice (some ⟨W0.heap.size,0,none⟩) 0 0) 0 [] (World.ownsRow_lit W0 #[] 0 (Nat.le_refl _) (Nat.zero_le _) rfl) A n c xs ((hx.below hb0).alloc _) (by omega) (by simp)
  rw[Nat.zero_add,List.nil_append] at hown3
  obtain⟨Ao,co,hv3,hlo,hco,hAo⟩:=own_shape hown3
  subst hv3
  have hb3:Below W0.heap.size W0 w3:=((Below.refl _ _).alloc (Nat.le_refl _) _).grown hg3 (by simp) fun j hj=>by have hj:some W0.heap.size=some j:=hj;cases hj;exact Nat.le_refl _
  have hbo:=Bys.own hown3 hx.2.1
  have hfar: ∀g off sp,Ao=some ⟨g,off,sp⟩→W0.heap.size≤g:=fun g off sp e=>(hown3.lt g (by rw[e];rfl)).1
  have p1:=(hb3.block w.heap.size (by omega)).trans p0
  have hB1:=below_then hb0 hb3 (Nat.le_refl _)
  have hlen:n=xs.length:=hx.1.symm
  have hnd:NdC (fun g=>w.heap.size<g) w3 (.mk 4 xs []) (.int .u8 4) (.slice Ao n co) (.slice none 0 0):=ndC_leaf (by omega) hlo hco hbo (fun hn g off sp e=>by have:=hfar g off sp e;omega)
  obtain⟨r0,r1,r2,hB⟩:=res3 (y0:=.int .u8 4) (y1:=.slice Ao n co) (y2:=.slice none 0 0) (Nat.le_refl _) hB1 p1
  have hn2:=res3_nd (b:=w.heap.size) (y0:=.int .u8 4) (y1:=.slice Ao n co) (y2:=.slice none 0 0) (fun g hg=>by omega) hnd
  have f0:=Lib.frozen_of_heap p1 0
  have f1:=Lib.frozen_of_heap p1 1
  have f2:=Lib.frozen_of_heap p1 2
  have s0:=(Lib.cell_of_heap p1 0).trans rfl
  have s1:=(Lib.cell_of_heap p1 1).trans rfl
  have s2:=(Lib.cell_of_heap p1 2).trans rfl
  have HE:=Lib.hid (And.intro hB (NdC.mono (B':=fun g=>w.heap.size≤g) (fun g hg=>by omega) _ _ _ _ hn2))
  clear hB hn2 hnd p1 hB1 hb3 hbo hfar hown3 hg3 hob3 hx hlen hb0 p0 hz0 hAo hlo hco
  go_enter Tryz.func48,Tryz.ntmps48
  go_wp2_with (at_builtin;refine wpl_append rfl (.tmp 3) (.tmp 4) 28 rfl _ _ _ rfl rfl hrun ?_)
  refine bodyPost_ret (v:=.agg #[.int .u8 4,.slice Ao n co,.slice none 0 0]) ?_ rfl ⟨HE.out.1,_,_,_,_,_,_,_,rfl,HE.out.2⟩
  simp[results,Tryz.results48,go_sem,r0,r1,r2]
theorem rintOf_any (B:Nat→Prop)(n:Nd)(c0 c1 c2:Value)(w:World)(hn:NdC B w n c0 c1 c2):
    Calls Tryz.prog 30 #[.agg #[c0,c1,c2]] w fun e w'=>e=.returned (.tuple #[.int .i64 (intF n.body).1,.bool (intOK n)])∧Below w.heap.size w w':=by
  obtain⟨t,A,la,ca,K,lk,ck,rfl,rfl,rfl⟩:=hn.shape
  obtain⟨h1,h2,h3,h4⟩:=body_size hn
  obtain⟨W0,hW0⟩: ∃x,w.alloc (.cells #[.int .u8 t,.slice A la ca,.slice K lk ck] 40)=x:=⟨_,rfl⟩
  have hb0:Below w.heap.size w W0:=by rw[←hW0];exact below_new _ _
  have q0:W0.heap[w.heap.size]? =some (.cells #[.int .u8 t,.slice A la ca,.slice K lk ck] 40):=by rw[←hW0];exact heap_new_ _ _
  obtain⟨x0,x1,x2⟩:=box3_ (Below.refl _ W0) q0
  have HO:=Lib.hid (refInt_any A la ca n.body W0 (h3.below hb0) h1 h2)
  have HX:=Lib.hid (fun W (hW:Below W0.heap.size W0 W)=>box3_ hW q0)
  have HP:=Lib.hid (fun W (hW:Below W0.heap.size W0 W)=>plain_any _ n 2 _ _ _ W (NdC.below (below_then hb0 hW (Nat.le_refl _)) _ _ _ _ hn))
  have HB:=Lib.hid hb0
  obtain⟨v,hv⟩: ∃x,(intF n.body).1=x:=⟨_,rfl⟩
  obtain⟨er,her⟩: ∃x,(intF n.body).2=x:=⟨_,rfl⟩
  obtain⟨pb,hpb⟩: ∃x,plainB n 2=x:=⟨_,rfl⟩
  have hok:intOK n=(decide (er=0) && pb):=by rw[←her,←hpb];rfl
  obtain⟨ok,hok2⟩: ∃x,(decide (er=0) && pb)=x:=⟨_,rfl⟩
  have HOK:=Lib.hid hok2
  rw[hok,hok2,hv]
  rw[hv,her] at HO
  rw[hpb] at HP
  clear hok hok2 hv her hpb q0 hb0 hn h1 h2 h3 h4
  go_enter Tryz.func30,Tryz.ntmps30
  go_wp2_with fail
  refine HO.out.mono ?_
  rintro e w1 ⟨rfl,hq⟩
  have hb1:Below W0.heap.size W0 w1:=by rw[←hq];exact Below.refl _ _
  have HC:=Lib.hid (HP.out w1 hb1)
  have HB1:=Lib.hid (below_then HB.out hb1 (Nat.le_refl _))
  clear x0 x1 x2
  obtain⟨x0,x1,x2⟩:=HX.out w1 hb1
  clear hb1 hq HO HP
  by_cases h0:er=0
  · subst h0
    obtain rfl:pb=ok:=by rw[←HOK.out];simp
    go_wp2_with fail
    refine HC.out.mono ?_
    rintro e w2 ⟨rfl,hb2⟩
    have HB2:=Lib.hid (below_then HB1.out hb2 (Nat.le_refl _))
    clear hb2 HC HB1 x0 x1 x2
    go_wp2
    go_ret2
    exact⟨by first |rfl |simp,HB2.out⟩
  · have hz:(er==0)=false:=by rw[beq_eq_false_iff_ne];exact h0
    obtain rfl:false=ok:=by rw[←HOK.out,decide_eq_false h0];rfl
    clear h0 HC
    go_wp2
    go_ret2
    exact⟨by first |rfl |simp,HB1.out⟩
theorem moment_any (s:Int)(w:World):Calls Tryz.prog 42 #[.int .i64 s] w fun e w'=>e=.returned (.bool (inRB s))∧Below w.heap.size w w':=by
 unfold inRB
 by_cases q1: -631152000≤s
 ·rw[decide_eq_true q1,Bool.true_and]
  by_cases q2:s≤253402300799
  ·rw[decide_eq_true q2]
   go_enter Tryz.func42,Tryz.ntmps42
   go_wp2
   go_ret
   exact⟨rfl,br_ _ _⟩
  ·rw[decide_eq_false q2]
   go_enter Tryz.func42,Tryz.ntmps42
   go_wp2
   go_ret
   exact⟨rfl,br_ _ _⟩
 ·rw[decide_eq_false q1,Bool.false_and]
  go_enter Tryz.func42,Tryz.ntmps42
  go_wp2
  go_ret
  exact⟨rfl,br_ _ _⟩
theorem handled_any (s:Int)(w:World):Calls Tryz.prog 43 #[.int .i64 s] w fun e w'=>e=.returned (.bool (hOK s))∧Below w.heap.size w w':=by
 unfold hOK
 by_cases q1:0≤s
 ·rw[decide_eq_true q1,Bool.true_and]
  by_cases q2:s<281474976710656
  ·rw[decide_eq_true q2]
   go_enter Tryz.func43,Tryz.ntmps43
   go_wp2
   go_ret
   exact⟨rfl,br_ _ _⟩
  ·rw[decide_eq_false q2]
   go_enter Tryz.func43,Tryz.ntmps43
   go_wp2
   go_ret
   exact⟨rfl,br_ _ _⟩
 ·rw[decide_eq_false q1,Bool.false_and]
  go_enter Tryz.func43,Tryz.ntmps43
  go_wp2
  go_ret
  exact⟨rfl,br_ _ _⟩
theorem rtimeC_any (s:Int)(w:World)(hi:InR s):Calls Tryz.prog 47 #[.int .i64 s] w (NVal (fun g=>w.heap.size≤g) w (timeNd s)):=by
 obtain⟨W0,hW0⟩:=nm_ (w.alloc (.cells #[.int .u8 0,.slice none 0 0,.slice none 0 0] 40))
 have hb0:Below w.heap.size w W0:=by rw[←hW0];exact below_new _ _
 have p0:W0.heap[w.heap.size]? =some (.cells #[.int .u8 0,.slice none 0 0,.slice none 0 0] 40):=by rw[←hW0];exact heap_new_ _ _
 have hz0:W0.heap.size=w.heap.size+1:=by rw[←hW0];simp
 have hp:=refPutTime_any s W0
 have e1:putT s=tagOf s:=by unfold putT;rw[if_pos hi]
 have e2:putB s=bodyOf s:=by unfold putB;rw[if_pos hi]
 rw[e1,e2] at hp
 have ht:=tag_bd s
 have hR:timeNd s=.mk (tagOf s) (bodyOf s) []:=rfl
 rw[hR]
 obtain⟨t,htt⟩:=nm_ (tagOf s)
 obtain⟨b,hbb⟩:=nm_ (bodyOf s)
 obtain⟨er,her⟩:=nm_ (putE s)
 rw[htt,hbb,her] at hp
 rw[htt] at ht
 rw[htt,hbb]
 have HP:=hd_ hp
 have HB:=hd_ (ai_ hb0 (ai_ p0 (ai_ hz0 ht)))
 clear hp hb0 p0 hz0 ht htt hbb her hR e1 e2
 go_enter Tryz.func47,Tryz.ntmps47
 go_wp2_with fail
 refine HP.out.mono ?_
 rintro e w1 ⟨A,c,rfl,⟨h1,h2,h3,h4⟩,hb1⟩
 have hz:=HB.out.2.2.1
 have p1:=(hb1.block w.heap.size (by omega)).trans HB.out.2.1
 have hB1:=below_then HB.out.1 hb1 (lr_ _)
 have hn:NdC (fun g=>W0.heap.size≤g) w1 (.mk t b []) (.int .u8 t) (.slice A b.length c) (.slice none 0 0):=ndC_leaf HB.out.2.2.2 h2 h3 h1 (fun hl g off sp e=>by
  obtain⟨g',off',e',_⟩:=h1.2.2 hl
  rw[e] at e'
  simp only[Option.some.injEq,Addr.mk.injEq] at e'
  obtain⟨rfl,rfl,rfl⟩:=e'
  exact(h4 _ _ e).1)
 obtain⟨r0,r1,r2,hB⟩:=res3 (y0:=.int .u8 t) (y1:=.slice A b.length c) (y2:=.slice none 0 0) (lr_ _) hB1 p1
 have hn2:=res3_nd (b:=w.heap.size) (y0:=.int .u8 t) (y1:=.slice A b.length c) (y2:=.slice none 0 0) (fun g hg=>by omega) hn
 obtain⟨⟨f0,f1,f2⟩,s0,s1,s2⟩:=st3 p1
 have HE:=hd_ (ai_ hB (NdC.mono (B':=fun g=>w.heap.size≤g) (fun g hg=>by omega) _ _ _ _ hn2))
 obtain⟨len,hlen⟩:=nm_ (b.length)
 rw[hlen] at r0 r1 r2 HE⊢
 clear hB hn2 hn hB1 p1 h1 h2 h3 h4 hb1 hlen
 go_wp2_with fail
 refine bodyPost_ret (v:=.agg #[.int .u8 t,.slice A len c,.slice none 0 0]) ?_ rfl ⟨HE.out.1,_,_,_,_,_,_,_,rfl,HE.out.2⟩
 simp[results,Tryz.results47,go_sem,r0,r1,r2]
theorem rhandleC_any (n:Int)(w:World)(h:0≤n∧n<281474976710656):Calls Tryz.prog 22 #[.int .i64 n] w (NVal (fun g=>w.heap.size≤g) w (hNd n)):=by
 obtain⟨W0,hW0⟩:=nm_ (w.alloc (.cells #[.int .u8 0,.slice none 0 0,.slice none 0 0] 40))
 have hb0:Below w.heap.size w W0:=by rw[←hW0];exact below_new _ _
 have p0:W0.heap[w.heap.size]? =some (.cells #[.int .u8 0,.slice none 0 0,.slice none 0 0] 40):=by rw[←hW0];exact heap_new_ _ _
 have hz0:W0.heap.size=w.heap.size+1:=by rw[←hW0];simp
 have hp:=rbytes_any n W0
 have hl:=hbF_len h
 have hR:hNd n=.mk 4 (hbF n) []:=rfl
 rw[hR]
 obtain⟨b,hb⟩:=nm_ (hbF n)
 rw[hb] at hp hl⊢
 have HP:=hd_ hp
 have HB:=hd_ (ai_ hb0 (ai_ p0 (ai_ hz0 hl)))
 clear hp hb0 p0 hz0 hl hR hb
 go_enter Tryz.func22,Tryz.ntmps22
 go_wp2_with fail
 refine HP.out.mono ?_
 rintro e w1 ⟨A,c,rfl,h1,⟨h2,h3⟩,hb1⟩
 rw[HB.out.2.2.2] at h1 h2⊢
 have HC:=hd_ (roctets_any A 8 c b w1 h1 h2 h3 (by decide))
 have H1:=hd_ hb1
 clear hb1 h1 h2 h3 HP
 go_wp2_with fail
 refine HC.out.mono ?_
 rintro e w2 ⟨hb2,t,A2,l2,k2,K2,m2,u2,rfl,hn⟩
 have hz:=HB.out.2.2.1
 have hbx:=below_then H1.out hb2 (lr_ _)
 have p1:=(hbx.block w.heap.size (by omega)).trans HB.out.2.1
 have hB1:=below_then HB.out.1 hbx (lr_ _)
 have hs1:=H1.out.size
 obtain⟨r0,r1,r2,hB⟩:=res3 (y0:=.int .u8 t) (y1:=.slice A2 l2 k2) (y2:=.slice K2 m2 u2) (lr_ _) hB1 p1
 have hn2:=res3_nd (b:=w.heap.size) (y0:=.int .u8 t) (y1:=.slice A2 l2 k2) (y2:=.slice K2 m2 u2) (fun g hg=>by omega) hn
 obtain⟨⟨f0,f1,f2⟩,s0,s1,s2⟩:=st3 p1
 have HE:=hd_ (ai_ hB (NdC.mono (B':=fun g=>w.heap.size≤g) (fun g hg=>by omega) _ _ _ _ hn2))
 clear hB hn2 hn hB1 p1 hb2 hbx hz hs1 HC H1
 go_wp2_with fail
 refine bodyPost_ret (v:=.agg #[.int .u8 t,.slice A2 l2 k2,.slice K2 m2 u2]) ?_ rfl ⟨HE.out.1,_,_,_,_,_,_,_,rfl,HE.out.2⟩
 simp[results,Tryz.results22,go_sem,r0,r1,r2]
def timeK (n:Nd):Bool:=decide (timeE n.tag n.body=0) && decide (n.kids.length=0)
theorem rtimeOf_any (B:Nat→Prop)(n:Nd)(c0 c1 c2:Value)(w:World)(hn:NdC B w n c0 c1 c2):
 Calls Tryz.prog 28 #[.agg #[c0,c1,c2]] w fun e w'=>e=.returned (.tuple #[.int .i64 (timeN n.tag n.body),.bool (timeK n)])∧Below w.heap.size w w':=by
 obtain⟨t,A,la,ca,K,lk,ck,rfl,rfl,rfl⟩:=hn.shape
 obtain⟨h1,h2,h3,h4⟩:=body_size hn
 have ht:n.tag=t:=by
  obtain⟨t',b,ks⟩:=n
  have:=(NdC.kidsL hn).1
  simp only[Value.int.injEq,true_and] at this
  exact this.symm
 have hk:lk=n.kids.length:=nd_len' hn
 obtain⟨W0,hW0⟩:=nm_ (w.alloc (.cells #[.int .u8 t,.slice A la ca,.slice K lk ck] 40))
 have hb0:Below w.heap.size w W0:=by rw[←hW0];exact below_new _ _
 have q0:W0.heap[w.heap.size]? =some (.cells #[.int .u8 t,.slice A la ca,.slice K lk ck] 40):=by rw[←hW0];exact heap_new_ _ _
 obtain⟨_,x0,x1,x2⟩:=st3 q0
 have HO:=hd_ (refTime_any t A la ca n.body W0 (h3.below hb0) h1 (by unfold maxLen at h2;omega))
 have HX:=hd_ (fun W (hW:Below W0.heap.size W0 W)=>(st3 ((hW.block _ (Array.getElem?_eq_some_iff.1 q0).1).trans q0)).2.2.2)
 have HB:=hd_ hb0
 have hok:timeK n=(decide (timeE t n.body=0) && decide (lk=0)):=by unfold timeK;rw[ht,←hk]
 rw[hok,ht]
 obtain⟨v,hv⟩:=nm_ (timeN t n.body)
 obtain⟨er,her⟩:=nm_ (timeE t n.body)
 unfold TimeIs at HO
 rw[hv,her] at HO
 rw[hv,her]
 obtain⟨ok,hok2⟩:=nm_ (decide (er=0) && decide (lk=0))
 rw[hok2]
 have HOK:=hd_ hok2
 clear hv her q0 hb0 hn h1 h2 h3 h4 hk ht hok hok2
 go_enter Tryz.func28,Tryz.ntmps28
 go_wp2_with fail
 refine HO.out.mono ?_
 rintro e w1 ⟨rfl,hb1⟩
 have HB1:=hd_ (below_then HB.out hb1 (lr_ _))
 have u2: ∀q,(w1.drewN q).cell? ⟨w.heap.size,2,none⟩=some (.slice K lk ck):=fun q=>HX.out w1 hb1
 clear x0 x1 x2 hb1 HO HX
 by_cases h0:er=0
 ·subst h0
  by_cases hl:lk=0
  ·subst hl
   obtain rfl:true=ok:=by rw[←HOK.out];rfl
   go_wp2_with fail
   go_quiet (fail)
   go_wp2
   go_ret2
   exact⟨by first |rfl |simp,⟨HB1.out.os,HB1.out.tape,HB1.out.output,HB1.out.size,HB1.out.block⟩⟩
  ·obtain rfl:false=ok:=by rw[←HOK.out,decide_eq_false hl];rfl
   have hz:((lk:Int)==0)=false:=by rw[beq_eq_false_iff_ne];omega
   go_wp2_with fail
   go_quiet (fail)
   go_wp2
   go_ret2
   exact⟨by first |rfl |simp[hl],⟨HB1.out.os,HB1.out.tape,HB1.out.output,HB1.out.size,HB1.out.block⟩⟩
 ·have hz:(er==0)=false:=by rw[beq_eq_false_iff_ne];exact h0
  obtain rfl:false=ok:=by rw[←HOK.out,decide_eq_false h0];rfl
  clear h0
  go_wp2_with fail
  go_quiet (fail)
  go_wp2
  go_ret2
  exact⟨by first |rfl |simp,⟨HB1.out.os,HB1.out.tape,HB1.out.output,HB1.out.size,HB1.out.block⟩⟩
theorem rhandleOf_any (B:Nat→Prop)(n:Nd)(c0 c1 c2:Value)(w:World)(hn:NdC B w n c0 c1 c2):
 Calls Tryz.prog 29 #[.agg #[c0,c1,c2]] w fun e w'=>e=.returned (.tuple #[.int .i64 ((numF n.body).getD (-1)),.bool ((numF n.body).isSome && plainB n 4)])∧Below w.heap.size w w':=by
 obtain⟨t,A,la,ca,K,lk,ck,rfl,rfl,rfl⟩:=hn.shape
 obtain⟨h1,h2,h3,h4⟩:=body_size hn
 obtain⟨W0,hW0⟩:=nm_ (w.alloc (.cells #[.int .u8 t,.slice A la ca,.slice K lk ck] 40))
 have hb0:Below w.heap.size w W0:=by rw[←hW0];exact below_new _ _
 have q0:W0.heap[w.heap.size]? =some (.cells #[.int .u8 t,.slice A la ca,.slice K lk ck] 40):=by rw[←hW0];exact heap_new_ _ _
 obtain⟨_,x0,x1,x2⟩:=st3 q0
 have HO:=hd_ (rnumber_any A la ca n.body W0 (h3.below hb0) h1 h2)
 have HC:=hd_ (plain_any _ n 4 _ _ _ W0 (NdC.below hb0 _ _ _ _ hn))
 have HB:=hd_ hb0
 obtain⟨R,hR⟩:=nm_ (numF n.body)
 obtain⟨pb,hpb⟩:=nm_ (plainB n 4)
 unfold NumPost at HO
 rw[hR] at HO⊢
 rw[hpb] at HC⊢
 clear hR hpb q0 hb0 hn h1 h2 h3 h4
 go_enter Tryz.func29,Tryz.ntmps29
 go_wp2_with fail
 refine HO.out.mono ?_
 rintro e w1 ⟨rfl,rfl⟩
 cases R with
 |none=>
  clear HC HO
  go_wp2
  go_ret2
  exact⟨by first |rfl |simp,HB.out⟩
 |some v=>
  go_wp2_with fail
  refine HC.out.mono ?_
  rintro e w2 ⟨rfl,hb2⟩
  have HB2:=hd_ (below_then HB.out hb2 (lr_ _))
  clear hb2 HC HO x0 x1 x2
  go_wp2
  go_ret2
  exact⟨by first |rfl |simp,HB2.out⟩
end Go.Proofs.YtconbejjagcnkaaGreatDoor.nmc
