/- The reader at a compound value. What comes up from below as  -/
import Derived.Test.YtkjkhoglkpepiaaGreatDoorNb
import Derived.Test.YtkjkhoglkpepiaaGreatDoorKa
import Derived.Test.YtkjkhoglkpepiaaGreatDoorProg
import Derived.Tactics
import Derived.Tactics2
import Derived.Defers
import Derived.Recover
import Derived.Laws.Pointers
import Derived.Lib.Hide
import Derived.Lib.Builder
set_option maxRecDepth 100000
set_option maxHeartbeats 16000000
set_option linter.unusedVariables false
set_option linter.unusedSimpArgs false
namespace Go.Proofs.YtkjkhoglkpepiaaGreatDoor.ndc
open Go.RowKit tlvc tlvd txc
def Reads (d outer:Nat):Prop:=∀(A:Option Addr) (n c:Nat) (xs:List Int) (at_:Nat) (w:World),Bys w A n xs→n≤c→c≤maxLen→at_≤n→Tabs w→
 Calls Tryz.prog 86 #[.slice A n c,.int .i64 at_,.int .i64 outer] w (RPost w (readF d outer xs at_))
theorem readF_next: ∀(d outer:Nat) (xs:List Int) (at_:Nat) (n:Nd) (nx:Nat),Fit xs→at_≤xs.length→readF d outer xs at_=.ok n nx→at_+2≤nx∧nx≤xs.length
 |0,_,_,_,_,_,_,_,h=>by unfold readF at h;cases h
 |d+1,outer,xs,at_,n,nx,hf,hat,h=>by
  unfold readF at h
  simp only at h
  split at h
  ·cases h
  ·rename_i hh
   have hh:(headF (xs.drop at_)).1=0:=by simpa using hh
   obtain⟨t,F,T,hs,eF,eT,et⟩:=spot_of hf hat hh
   rw[←eF,←eT,←et] at h
   have:=hs.lo;have:=hs.mid;have:=hs.hi
   split at h
   ·cases h
   ·split at h
    ·cases h;omega
    ·split at h
     ·cases h
     ·split at h
      ·cases h
      ·cases h;omega
def resF (r:RL)(T:Nat)(t:Int)(at_:Nat):RR:=
 match r with
 | .bad a e=>.bad a e
 | .ok k=>if t=49∧k.falls=true then .bad at_ 42 else .ok (.mk t [] k.kids) T
def kidsF (rec:Nat→RR)(ys:List Int)(F T:Nat)(t:Int)(at_:Nat):RR:=resF (readL rec ys (T - F) F rk0) T t at_
theorem readL_end {rec:Nat→RR}{ys:List Int}{f:Nat}{k:RK}(h:True):readL rec ys f ys.length k=.ok k:=by
 cases f with
 |zero=>rfl
 |succ f=>unfold readL;rw[if_neg (by omega)]
theorem readL_bad {rec:Nat→RR}{ys:List Int}{f next:Nat}{k:RK}{a e:Int}(h:next<ys.length)(hr:rec next=.bad a e):readL rec ys (f+1) next k=.bad a e:=by
 conv=>lhs;unfold readL
 rw[if_pos h,hr]
theorem readL_ok {rec:Nat→RR}{ys:List Int}{f next nx:Nat}{k:RK}{n:Nd}(h:next<ys.length)(hr:rec next=.ok n nx):readL rec ys (f+1) next k=readL rec ys f nx (k.add n ((ys.take nx).drop next)):=by
 conv=>lhs;unfold readL
 rw[if_pos h,hr]
theorem NdC.shape {S:Nat→Prop}{w:World}{n:Nd}{c0 c1 c2:Value}(h:NdC S w n c0 c1 c2): ∃t A la ca K lk ck,c0=.int .u8 t∧c1=.slice A la ca∧c2=.slice K lk ck:=by
 obtain⟨t,b,ks⟩:=n
 unfold NdC at h
 obtain⟨rfl,_,⟨A,la,ca,rfl,_⟩,K,ck,rfl,_⟩:=h
 exact⟨_,_,_,_,_,_,_,rfl,rfl,rfl⟩
theorem comp_end {w wr:World}{nb rb base:Nat}{t:Int}{k:RK}(h:Inv w nb rb base t k wr)(htag:0≤t∧t≤255)(hP:w.heap.size<nb)(hb:nb<base){v:Value}{cs:List Value}(hown:wr.ownsRow base 43 3 v k.kids.length cs)(htr:Trips (Free (w.heap.size+1) wr.heap.size nb rb v.ownBlock) wr k.kids cs):
 ∃W4,(((wr.setCell ⟨w.heap.size,0,none⟩ (.int .u8 t)).setCell ⟨w.heap.size,1,none⟩ (.slice none 0 0)).setCell ⟨w.heap.size,2,none⟩ v)=W4∧W4.cell? ⟨w.heap.size,0,none⟩=some (.int .u8 t)∧W4.cell? ⟨w.heap.size,1,none⟩=some (.slice none 0 0)∧W4.cell? ⟨w.heap.size,2,none⟩=some v∧Below w.heap.size w W4∧NdV (fun g=>w.heap.size≤g) W4 (.mk t [] k.kids) (.agg #[.int .u8 t,.slice none 0 0,v]):=by
 have d0:wr.cell? ⟨w.heap.size,0,none⟩=some (.int .u8 0):=by rw[ch_ h.res];rfl
 have d1:wr.cell? ⟨w.heap.size,1,none⟩=some (.slice none 0 0):=by rw[ch_ h.res];rfl
 have d2:wr.cell? ⟨w.heap.size,2,none⟩=some (.slice none 0 0):=by rw[ch_ h.res];rfl
 obtain⟨r0,r1,r2,hbl,hk⟩:=three_set wr w.heap.size w.heap.size _ _ _ (.int .u8 t) (.slice none 0 0) v (lr_ _) d0 d1 d2
 refine⟨_,rfl,r0,r1,r2,h.bel.trans hbl,_,_,_,rfl,?_⟩
 have hst:Stays (Free (w.heap.size+1) wr.heap.size nb rb v.ownBlock) wr (((wr.setCell ⟨w.heap.size,0,none⟩ (.int .u8 t)).setCell ⟨w.heap.size,1,none⟩ (.slice none 0 0)).setCell ⟨w.heap.size,2,none⟩ v):=
  ⟨hbl.size,fun p hp _=>hk p (by have:=hp.1;omega)⟩
 have ht2:=(htr.stays hst).mono (S':=fun g=>w.heap.size≤g) fun g hg=>by have:=hg.1;omega
 unfold NdC
 refine⟨rfl,htag,⟨none,0,0,rfl,lr_ _,Nat.zero_le _,Bys.nil_ _ _,fun h=>absurd h (by omega)⟩,?_⟩
 rcases hown.2 with ⟨rfl,hn⟩ | ⟨g,cap,cur,hve,hbg,hg,hnc,hcm,hcs,htake⟩
 ·exact⟨none,0,by rw[hn],by omega,Nat.zero_le _,fun h=>absurd h (by omega)⟩
 ·subst hve
  refine⟨some ⟨g,0,none⟩,cap,rfl,hnc,hcm,fun _=>⟨g,0,rfl,?_,by omega,Trips.kids ht2 fun j u hu=>?_⟩⟩
  ·have:=(Array.getElem?_eq_some_iff.1 hg).1
   have:=hbl.size
   omega
  ·rw[hk ⟨g,0+j,none⟩ (by show g≠_;omega)]
   have:=hown.cells (g:=g) rfl j u hu
   rwa[Addr.add_lit] at this
theorem read_comp (d outer:Nat)(IH:Reads d (outer+1))(A:Option Addr)(n c:Nat)(xs:List Int)(at_ F T:Nat)(t:Int)(w:World)(hx:Bys w A n xs)(hc:n≤c)(hm:c≤maxLen)(hs:Spot xs at_ t F T)(hTb:Tabs w)(hou:outer<32)(ho:aloneF t ((xs.take T).drop F) outer=0)(hcp:compB t=true):
 Calls Tryz.prog 86 #[.slice A n c,.int .i64 at_,.int .i64 outer] w (RPost w (kidsF (readF d (outer+1) (xs.take T)) (xs.take T) F T t at_)):=by
 have hl:=hx.1
 have hlo:=hs.lo
 have hmid:=hs.mid
 have hhi:=hs.hi
 have htag:=hs.tag
 have hfew:=hs.few
 have hm9:c≤9223372036854775807:=by unfold maxLen at hm;omega
 obtain⟨b,off,rfl,hb,_⟩:=hx.2.2 (by omega)
 have hbw:Below w.heap.size w (w.alloc (.cells #[.int .u8 0,.slice none 0 0,.slice none 0 0] 43)):=(br_ _ _).alloc (lr_ _) _
 have hhd:=head_of head_ways (some ⟨b,off,none⟩) n c xs at_ (w.alloc (.cells #[.int .u8 0,.slice none 0 0,.slice none 0 0] 43)) (hx.alloc _) hc hm
 rw[head_spot hs] at hhd
 unfold Yes at hhd
 have hbd:=body_bys hx hc hmid (by omega)
 have hal:=alone_any t (some ⟨b,if c=F then off else off+F,none⟩) (T - F) (c - F) ((xs.take T).drop F) outer (w.alloc (.cells #[.int .u8 0,.slice none 0 0,.slice none 0 0] 43)) htag (hbd.below hbw) (by omega) (Nat.le_trans (Nat.sub_le _ _) hm) (hTb.below hbw)
 rw[ho] at hal
 have hcm:=fun W=>compound_any t W htag
 rw[hcp] at hcm
 have hup:=hx.upto (k:=T) (by omega)
 obtain⟨ys,hys⟩:=nm_ (xs.take T)
 rw[hys] at hup⊢
 have hyl:ys.length=T:=hup.1
 obtain⟨R0,hR0⟩:=nm_ (readL (readF d (outer+1) ys) ys (T - F) F rk0)
 unfold kidsF
 rw[hR0]
 obtain⟨RES,hRES⟩:=nm_ (resF R0 T t at_)
 rw[hRES]
 have HRES:=hd_ hRES
 clear hRES
 have HH:=hd_ hhd
 have HC:=hd_ hcm
 have HR:=hd_ hR0
 have HU:=hd_ hup
 have HI:=hd_ IH
 have HX:=hd_ hx
 have i1:(0:Int)≤(F:Int):=by omega
 have i2:(F:Int)≤(T:Int):=by omega
 have i3:(T:Int)≤(c:Int):=by omega
 have mixed:Tryz.prog.follows Departure.mixedOrders=true:=by kernel_rfl
 have hw1:IntKind.i64.wrap ((outer:Int)+1)=((outer+1:Nat):Int):=by rw[IntWalk.i64_in _ (by omega)];omega
 obtain⟨SL,hSL⟩: ∃v:Value,(if c=F then Value.slice (some ⟨b,off,none⟩) 0 0 else Value.slice (some ⟨b,off+F,none⟩) (T - F) (c - F))=v:=⟨_,rfl⟩
 have hal2:Calls Tryz.prog 61 #[.int .u8 t,SL,.int .i64 outer] (w.alloc (.cells #[.int .u8 0,.slice none 0 0,.slice none 0 0] 43)) fun e w'=>e=.returned (.int .i64 0)∧Below (w.alloc (.cells #[.int .u8 0,.slice none 0 0,.slice none 0 0] 43)).heap.size (w.alloc (.cells #[.int .u8 0,.slice none 0 0,.slice none 0 0] 43)) w':=by
  rw[←hSL]
  by_cases hcF:c=F
  ·rw[if_pos hcF];rw[if_pos hcF] at hal
   have e1:T - F=0:=by omega
   have e2:c - F=0:=by omega
   rw[e1,e2] at hal;exact hal
  ·rw[if_neg hcF];rw[if_neg hcF] at hal;exact hal
 have HA:=hd_ hal2
 clear hhd hbd hal hal2 hs hx hys hcm hup IH hR0
 go_enter Tryz.func86,Tryz.ntmps86
 go_wp2_with fail
 refine HH.out.mono ?_
 rintro e w' ⟨rfl,rfl⟩
 by_cases hcF:c=F
 ·rw[if_pos hcF] at hSL
  subst hcF
  obtain rfl:T=c:=by omega
  subst hSL
  go_wp2_with fail
  refine HA.out.mono ?_
  rintro e w1 ⟨rfl,hb1⟩
  have hB1:=hbw.trans (hb1.mono hbw.size)
  have hP0:w1.heap[w.heap.size]? =some (.cells #[.int .u8 0,.slice none 0 0,.slice none 0 0] 43):=(hb1.block _ (by simp)).trans (heap_new_ _ _)
  have hP1:w.heap.size<w1.heap.size:=by have:=hb1.size;simp at this;omega
  clear HA hb1 hbw
  go_wp2_with fail
  refine(HC.out _).mono ?_
  rintro e w' ⟨rfl,rfl⟩
  go_wp2_with fail
  obtain⟨W0,hW0⟩:=nm_ ((w1.alloc (.cells #[.int .u8 t,.slice none 0 0,.slice none 0 0] 43)).alloc (.cells #[.slice none 0 0,.bool false] 184))
  have hz0:W0.heap.size=w1.heap.size+2:=by rw[←hW0];simp
  have hInv:Inv w w1.heap.size (w1.heap.size+1) (w1.heap.size+2) t rk0 W0:=by
   refine⟨?_,by omega,?_,⟨none,0,0,?_,Bys.nil_ _ _⟩,.slice none 0 0,[],?_,World.ownsRow_nil _ _ _ _,rfl⟩
   ·rw[←hW0];exact(hB1.alloc hB1.size _).alloc (by simp;omega) _
   ·rw[←hW0,heap_old_ _ _ (by simp;omega),heap_old_ _ _ hP1];exact hP0
   ·rw[←hW0]
    have:=heap_new_ (w1.alloc (.cells #[.int .u8 t,.slice none 0 0,.slice none 0 0] 43)) (.cells #[.slice none 0 0,.bool false] 184)
    rw[show(w1.alloc (.cells #[.int .u8 t,.slice none 0 0,.slice none 0 0] 43)).heap.size=w1.heap.size+1 by simp] at this
    exact this
   ·rw[←hW0,heap_old_ _ _ (by simp)];exact heap_new_ _ _
  obtain⟨nb,hnb⟩:=nm_ (w1.heap.size)
  rw[hW0]
  rw[hnb] at hInv hP1 hz0⊢
  have HV:=hd_ hInv
  clear hW0 hInv hB1 hP0 hnb HC
  go_loopg [14] (T+1) (fun gk s14 wx=>∃(next f:Nat) (k:RK),s14=.int .i64 next∧T≤next∧next≤T∧T - next≤f∧T - next<gk∧k.kids.length+T≤next∧Hid (readL (readF d (outer+1) ys) ys f next k=R0)∧Hid (Inv w nb (nb+1) (nb+2) t k wx))
  case atStart=>exact⟨T,T - T,rk0,rfl,by omega,by omega,by omega,by omega,by simp[rk0],HR,HV⟩
  case round=>
   obtain⟨next,f,k,rfl,hn1,hn2,hf,hgk,hkl,hq,hI⟩:=hrel
   clear HV HR
   have hbelx:=hI.out.bel
   by_cases hlt:next<T
   ·exact absurd hlt (by omega)
   ·obtain rfl:next=T:=by omega
    have hltz: ¬(next:Int)< (next:Int):=by omega
    obtain⟨v,cs,hv,hown,htr⟩:=hI.out.node
    obtain⟨L,ln,lc,hrow,_⟩:=hI.out.row
    have hR:R0=.ok k:=hq.out.symm.trans (by have:=readL_end (rec:=readF d (outer+1) ys) (ys:=ys) (f:=f) (k:=k) trivial;rw[hyl] at this;exact this)
    subst hR
    have f1:wr.cell? ⟨nb+1,1,none⟩=some (.bool k.falls):=by rw[ch_ hrow];rfl
    have m0:wr.cell? ⟨nb,0,none⟩=some (.int .u8 t):=by rw[ch_ hv];rfl
    have m1:wr.cell? ⟨nb,1,none⟩=some (.slice none 0 0):=by rw[ch_ hv];rfl
    have m2:wr.cell? ⟨nb,2,none⟩=some v:=by rw[ch_ hv];rfl
    have d0:wr.cell? ⟨w.heap.size,0,none⟩=some (.int .u8 0):=by rw[ch_ hI.out.res];rfl
    have d1:wr.cell? ⟨w.heap.size,1,none⟩=some (.slice none 0 0):=by rw[ch_ hI.out.res];rfl
    have d2:wr.cell? ⟨w.heap.size,2,none⟩=some (.slice none 0 0):=by rw[ch_ hI.out.res];rfl
    have g0:wr.frozen? ⟨w.heap.size,0,none⟩=false:=fh_ hI.out.res _
    have g1:wr.frozen? ⟨w.heap.size,1,none⟩=false:=fh_ hI.out.res _
    have g2:wr.frozen? ⟨w.heap.size,2,none⟩=false:=fh_ hI.out.res _
    obtain⟨W4,hW4,r0,r1,r2,hBe,hN⟩:=comp_end hI.out htag hP1 (by omega) hown htr
    have HEND:=hd_ (ai_ hW4 (ai_ hBe hN))
    obtain⟨fl,hfl⟩:=nm_ (k.falls)
    rw[hfl] at f1
    have hvs:(v=.slice none 0 0)∨ ∃g cap,v=.slice (some ⟨g,0,none⟩) k.kids.length cap:=by
     rcases hown.2 with ⟨h,_⟩ | ⟨g,cap,_,h,_⟩
     ·exact .inl h
     ·exact .inr ⟨g,cap,h⟩
    clear hv hown htr hrow hW4 hBe hN hq hI
    by_cases ht:t=49
    ·subst ht
     cases fl with
     |true=>
      have hE:RES=.bad at_ 42:=HRES.out.symm.trans (if_pos ⟨rfl,hfl⟩)
      subst hE
      clear HEND HRES
      go_wp2
      exact⟨rfl,hbelx,rfl⟩
     |false=>
      have hE:RES=.ok (.mk 49 [] k.kids) next:=HRES.out.symm.trans (if_neg (by rw[hfl];simp))
      subst hE
      clear HRES
      rcases hvs with rfl | ⟨gg,cc,rfl⟩
      all_goals
       go_wp2
       obtain⟨hW4,hBe,hN⟩:=HEND.out
       rw[hW4]
       refine bodyPost_ret (v:=.tuple #[.agg #[.int .u8 49,.slice none 0 0,_],.int .i64 next]) ?_ rfl ⟨hBe,_,rfl,hN⟩
       simp[results,Tryz.results86,go_sem,r0,r1,r2]
    ·have htb:(t==49)=false:=by simpa using ht
     have hE:RES=.ok (.mk t [] k.kids) next:=HRES.out.symm.trans (if_neg (fun h=>ht h.1))
     subst hE
     clear HRES
     rcases hvs with rfl | ⟨gg,cc,rfl⟩
     all_goals
      go_wp2
      obtain⟨hW4,hBe,hN⟩:=HEND.out
      rw[hW4]
      refine bodyPost_ret (v:=.tuple #[.agg #[.int .u8 t,.slice none 0 0,_],.int .i64 next]) ?_ rfl ⟨hBe,_,rfl,hN⟩
      simp[results,Tryz.results86,go_sem,r0,r1,r2]
 ·rw[if_neg hcF] at hSL
  have hcF1: ¬c - F=0:=by omega
  subst hSL
  go_wp2_with fail
  refine HA.out.mono ?_
  rintro e w1 ⟨rfl,hb1⟩
  have hB1:=hbw.trans (hb1.mono hbw.size)
  have hP0:w1.heap[w.heap.size]? =some (.cells #[.int .u8 0,.slice none 0 0,.slice none 0 0] 43):=(hb1.block _ (by simp)).trans (heap_new_ _ _)
  have hP1:w.heap.size<w1.heap.size:=by have:=hb1.size;simp at this;omega
  clear HA hb1 hbw
  go_wp2_with fail
  refine(HC.out _).mono ?_
  rintro e w' ⟨rfl,rfl⟩
  go_wp2_with fail
  obtain⟨W0,hW0⟩:=nm_ ((w1.alloc (.cells #[.int .u8 t,.slice none 0 0,.slice none 0 0] 43)).alloc (.cells #[.slice none 0 0,.bool false] 184))
  have hz0:W0.heap.size=w1.heap.size+2:=by rw[←hW0];simp
  have hInv:Inv w w1.heap.size (w1.heap.size+1) (w1.heap.size+2) t rk0 W0:=by
   refine⟨?_,by omega,?_,⟨none,0,0,?_,Bys.nil_ _ _⟩,.slice none 0 0,[],?_,World.ownsRow_nil _ _ _ _,rfl⟩
   ·rw[←hW0];exact(hB1.alloc hB1.size _).alloc (by simp;omega) _
   ·rw[←hW0,heap_old_ _ _ (by simp;omega),heap_old_ _ _ hP1];exact hP0
   ·rw[←hW0]
    have:=heap_new_ (w1.alloc (.cells #[.int .u8 t,.slice none 0 0,.slice none 0 0] 43)) (.cells #[.slice none 0 0,.bool false] 184)
    rw[show(w1.alloc (.cells #[.int .u8 t,.slice none 0 0,.slice none 0 0] 43)).heap.size=w1.heap.size+1 by simp] at this
    exact this
   ·rw[←hW0,heap_old_ _ _ (by simp)];exact heap_new_ _ _
  obtain⟨nb,hnb⟩:=nm_ (w1.heap.size)
  rw[hW0]
  rw[hnb] at hInv hP1 hz0⊢
  have HV:=hd_ hInv
  clear hW0 hInv hB1 hP0 hnb HC
  go_loopg [14] (T+1) (fun gk s14 wx=>∃(next f:Nat) (k:RK),s14=.int .i64 next∧F≤next∧next≤T∧T - next≤f∧T - next<gk∧k.kids.length+F≤next∧Hid (readL (readF d (outer+1) ys) ys f next k=R0)∧Hid (Inv w nb (nb+1) (nb+2) t k wx))
  case atStart=>exact⟨F,T - F,rk0,rfl,by omega,by omega,by omega,by omega,by simp[rk0],HR,HV⟩
  case round=>
   obtain⟨next,f,k,rfl,hn1,hn2,hf,hgk,hkl,hq,hI⟩:=hrel
   clear HV HR
   have hbelx:=hI.out.bel
   by_cases hlt:next<T
   ·have hltz:(next:Int)< (T:Int):=by omega
    obtain⟨gk',rfl⟩: ∃g',gk=g'+1:=⟨gk - 1,by omega⟩
    obtain⟨f',rfl⟩: ∃f',f=f'+1:=⟨f - 1,by omega⟩
    obtain⟨v,cs,hv,hown,htr⟩:=hI.out.node
    have hrd:=HI.out (some ⟨b,off,none⟩) T c ys next wr (HU.out.below hbelx) (by omega) hm (by omega) (hTb.below hbelx)
    obtain⟨RR,hRR⟩:=nm_ (readF d (outer+1) ys next)
    rw[hRR] at hrd
    have HRD:=hd_ hrd
    have HRR:=hd_ hRR
    have HN:=hd_ (ai_ hv (ai_ hown htr))
    clear hrd hRR hown htr hv
    go_wp2_with fail
    refine HRD.out.mono ?_
    rintro e w2 ⟨hb2,hpost⟩
    clear HRD
    cases RR with
    |bad a er=>
     simp only at hpost
     subst hpost
     have hR:R0=.bad a er:=hq.out.symm.trans (readL_bad (by omega) HRR.out)
     subst hR
     have hE:RES=.bad a er:=HRES.out.symm
     subst hE
     unfold Fault
     go_wp2
     exact⟨rfl,hbelx.trans (hb2.mono hbelx.size),rfl⟩
    |ok nd nx=>
     obtain⟨vv,rfl,c0,c1,c2,rfl,hnd⟩:=hpost
     obtain⟨hnx1,hnx2⟩:=readF_next d (outer+1) ys next nd nx HU.out.2.1 (by omega) HRR.out
     rw[hyl] at hnx2
     have hlow:=hI.out.low
     have hsz2:=hb2.size
     have hv2:w2.heap[nb]? =some (.cells #[.int .u8 t,.slice none 0 0,v] 43):=(hb2.block nb (by omega)).trans HN.out.1
     have hn2':nb<w2.heap.size:=by omega
     have v2:w2.cell? ⟨nb,2,none⟩=some v:=by rw[ch_ hv2];rfl
     obtain⟨o0,o1,o2⟩:=hnd.one
     obtain⟨tk,Ak,lak,cak,Kk,lkk,ckk,ec0,ec1,ec2⟩:=hnd.shape
     subst ec0 ec1 ec2
     have hw3:Below w2.heap.size w2 ((w2.alloc (.cells #[.int .u8 tk,.slice Ak lak cak,.slice Kk lkk ckk] 43)).alloc (.cells #[.int .u8 tk,.slice Ak lak cak,.slice Kk lkk ckk] 43)):=((br_ _ _).alloc (lr_ _) _).alloc (by simp) _
     have hown3:=((own_below HN.out.2.1 hb2).alloc (.cells #[.int .u8 tk,.slice Ak lak cak,.slice Kk lkk ckk] 43)).alloc (.cells #[.int .u8 tk,.slice Ak lak cak,.slice Kk lkk ckk] 43)
     have hnew:=heap_new_ (w2.alloc (.cells #[.int .u8 tk,.slice Ak lak cak,.slice Kk lkk ckk] 43)) (.cells #[.int .u8 tk,.slice Ak lak cak,.slice Kk lkk ckk] 43)
     rw[show(w2.alloc (.cells #[.int .u8 tk,.slice Ak lak cak,.slice Kk lkk ckk] 43)).heap.size=w2.heap.size+1 by simp] at hnew
     obtain⟨v',w4,hrun,hown',hgr,hob⟩:=app_node _ (nb+2) v k.kids.length cs hown3 (w2.heap.size+1) _ _ _ (by rw[ch_ hnew];rfl) (by rw[ch_ hnew];rfl) (by rw[ch_ hnew];rfl) o0 o1 o2 (by omega) (by have:=hw3.size;omega)
     have hmid:=hI.out.mid (by omega) (by omega) (by omega) hb2 hw3 HN.out.1 HN.out.2.1 hgr hP1 v'
     obtain⟨g',cap',hv'⟩: ∃g' cap',v'=.slice (some ⟨g',0,none⟩) (k.kids.length+1) cap':=by
      rcases hown'.2 with ⟨_,h⟩ | ⟨g',cap',_,h,_⟩
      ·omega
      ·exact⟨g',cap',h⟩
     have hsub:Bys w (some ⟨b,off+next,none⟩) (nx - next) ((ys.take nx).drop next):=by
      have h1:=(HU.out.upto (k:=nx) (by omega)).cut (k:=next) (cap:=nx+1) (by omega) (by omega)
      rw[if_neg (by omega)] at h1
      simpa[Addr.add_lit] using h1
     have hstep:=fun q=>Inv.step hI.out hP1 (by omega) (by omega) (by omega) (by omega) hb2 hnd hw3 HN.out.1 HN.out.2.1 HN.out.2.2 hown' hgr hob (c:=c - next) hsub q
     have HST:=hd_ hstep
     have hq2:=hq.out
     rw[readL_ok (by omega) HRR.out] at hq2
     have HQ2:=hd_ hq2
     obtain⟨n4,hrow5,hbel5⟩:=hmid
     have v4:w4.cell? ⟨nb,2,none⟩=some v:=by rw[ch_ n4];rfl
     have f4:w4.frozen? ⟨nb,2,none⟩=false:=fh_ n4 _
     subst hv'
     have hadd:=add_any (nb+1) k.last k.falls (some ⟨b,off+next,none⟩) (nx - next) (c - next) ((ys.take nx).drop next) _ hrow5 (hsub.below hbel5)
     have HAD:=hd_ hadd
     have s1:(0:Int)≤(next:Int):=by omega
     have s2:(next:Int)≤(nx:Int):=by omega
     have s3:(nx:Int)≤(c:Int):=by omega
     have s4: ¬c - next=0:=by omega
     have hbr:=HN.out.2.1
     clear hbelx hnd hown3 hnew hown' hgr hob hstep hq2 n4 hrow5 hbel5 hadd hv2 hsub hq hb2 o0 o1 o2 hbr
     go_wp2_with (at_builtin;refine wpl_run rfl (.tmp 70) (.tmp 72) 41 rfl _ v _ rfl rfl hrun ?_)
     go_wp2_with fail
     refine HAD.out.mono ?_
     rintro e w6 ⟨rfl,rfl⟩
     go_wp2
     go_roundg gk'
     case measure=>omega
     case rel=>exact⟨nx,f',k.add nd ((ys.take nx).drop next),rfl,by omega,by omega,by omega,by omega,by simp[RK.add];omega,HQ2,hd_ (HST.out 0)⟩
   ·obtain rfl:next=T:=by omega
    have hltz: ¬(next:Int)< (next:Int):=by omega
    obtain⟨v,cs,hv,hown,htr⟩:=hI.out.node
    obtain⟨L,ln,lc,hrow,_⟩:=hI.out.row
    have hR:R0=.ok k:=hq.out.symm.trans (by have:=readL_end (rec:=readF d (outer+1) ys) (ys:=ys) (f:=f) (k:=k) trivial;rw[hyl] at this;exact this)
    subst hR
    have f1:wr.cell? ⟨nb+1,1,none⟩=some (.bool k.falls):=by rw[ch_ hrow];rfl
    have m0:wr.cell? ⟨nb,0,none⟩=some (.int .u8 t):=by rw[ch_ hv];rfl
    have m1:wr.cell? ⟨nb,1,none⟩=some (.slice none 0 0):=by rw[ch_ hv];rfl
    have m2:wr.cell? ⟨nb,2,none⟩=some v:=by rw[ch_ hv];rfl
    have d0:wr.cell? ⟨w.heap.size,0,none⟩=some (.int .u8 0):=by rw[ch_ hI.out.res];rfl
    have d1:wr.cell? ⟨w.heap.size,1,none⟩=some (.slice none 0 0):=by rw[ch_ hI.out.res];rfl
    have d2:wr.cell? ⟨w.heap.size,2,none⟩=some (.slice none 0 0):=by rw[ch_ hI.out.res];rfl
    have g0:wr.frozen? ⟨w.heap.size,0,none⟩=false:=fh_ hI.out.res _
    have g1:wr.frozen? ⟨w.heap.size,1,none⟩=false:=fh_ hI.out.res _
    have g2:wr.frozen? ⟨w.heap.size,2,none⟩=false:=fh_ hI.out.res _
    obtain⟨W4,hW4,r0,r1,r2,hBe,hN⟩:=comp_end hI.out htag hP1 (by omega) hown htr
    have HEND:=hd_ (ai_ hW4 (ai_ hBe hN))
    obtain⟨fl,hfl⟩:=nm_ (k.falls)
    rw[hfl] at f1
    have hvs:(v=.slice none 0 0)∨ ∃g cap,v=.slice (some ⟨g,0,none⟩) k.kids.length cap:=by
     rcases hown.2 with ⟨h,_⟩ | ⟨g,cap,_,h,_⟩
     ·exact .inl h
     ·exact .inr ⟨g,cap,h⟩
    clear hv hown htr hrow hW4 hBe hN hq hI
    by_cases ht:t=49
    ·subst ht
     cases fl with
     |true=>
      have hE:RES=.bad at_ 42:=HRES.out.symm.trans (if_pos ⟨rfl,hfl⟩)
      subst hE
      clear HEND HRES
      go_wp2
      exact⟨rfl,hbelx,rfl⟩
     |false=>
      have hE:RES=.ok (.mk 49 [] k.kids) next:=HRES.out.symm.trans (if_neg (by rw[hfl];simp))
      subst hE
      clear HRES
      rcases hvs with rfl | ⟨gg,cc,rfl⟩
      all_goals
       go_wp2
       obtain⟨hW4,hBe,hN⟩:=HEND.out
       rw[hW4]
       refine bodyPost_ret (v:=.tuple #[.agg #[.int .u8 49,.slice none 0 0,_],.int .i64 next]) ?_ rfl ⟨hBe,_,rfl,hN⟩
       simp[results,Tryz.results86,go_sem,r0,r1,r2]
    ·have htb:(t==49)=false:=by simpa using ht
     have hE:RES=.ok (.mk t [] k.kids) next:=HRES.out.symm.trans (if_neg (fun h=>ht h.1))
     subst hE
     clear HRES
     rcases hvs with rfl | ⟨gg,cc,rfl⟩
     all_goals
      go_wp2
      obtain⟨hW4,hBe,hN⟩:=HEND.out
      rw[hW4]
      refine bodyPost_ret (v:=.tuple #[.agg #[.int .u8 t,.slice none 0 0,_],.int .i64 next]) ?_ rfl ⟨hBe,_,rfl,hN⟩
      simp[results,Tryz.results86,go_sem,r0,r1,r2]
end Go.Proofs.YtkjkhoglkpepiaaGreatDoor.ndc
namespace Go.Proofs.YtkjkhoglkpepiaaGreatDoor.ndc
open Go.RowKit tlvc
def Up (v:Value):List PanicEntry:=[{v:=v,recovered:=false}]
theorem heap_old (w:World)(o:Obj){k:Nat}(h:k<w.heap.size):(w.alloc o).heap[k]? =w.heap[k]? :=by show(w.heap.push o)[k]? =_;rw[Array.getElem?_push_lt h];exact(Array.getElem?_eq_getElem h).symm
theorem heap_new (w:World)(o:Obj):(w.alloc o).heap[w.heap.size]? =some o:=by show(w.heap.push o)[w.heap.size]? =_;simp
theorem heap_at (w:World)(o:Obj)(k:Nat)(h:k=w.heap.size):(w.alloc o).heap[k]? =some o:=by subst h;exact heap_new w o
theorem ta_errno (er:Int)(w:World):(Instr.typeAssert (.iface 35 (.int .i64 er)) 20 35 true).run Tryz.prog w=.ok (.tuple #[.int .i64 er,.bool true]) w:=by
 simp[Instr.typeAssert,run_underlying Tryz.underlying35]
theorem ta_fault_no (v:Value)(w:World):(Instr.typeAssert (.iface 107 v) 20 35 true).run Tryz.prog w=.ok (.tuple #[.int .i64 0,.bool false]) w:=by
 simp[Instr.typeAssert,run_underlying Tryz.underlying35,Tryz.zeroValue35]
theorem ta_fault (v:Value)(w:World):(Instr.typeAssert (.iface 107 v) 20 107 true).run Tryz.prog w=.ok (.tuple #[v,.bool true]) w:=by
 simp[Instr.typeAssert,run_underlying Tryz.underlying107]
theorem ta_nil_no (w:World):(Instr.typeAssert .nilIface 20 35 true).run Tryz.prog w=.ok (.tuple #[.int .i64 0,.bool false]) w:=by
 simp[Instr.typeAssert,run_underlying Tryz.underlying35,Tryz.zeroValue35]
theorem ta_nil_no2 (w:World):(Instr.typeAssert .nilIface 20 107 true).run Tryz.prog w=.ok (.tuple #[.agg #[.int .i64 0,.int .i64 0],.bool false]) w:=by
 simp[Instr.typeAssert,run_underlying Tryz.underlying107,Tryz.zeroValue107]
theorem catch_errno (p q:Addr)(x y er:Int)(older:List PanicEntry)(w:World)(hc:w.cell? p=some (.int .i64 x))(hz:w.frozen? p=false):
 CallsD Tryz.prog 60 #[.pointer (some p),.pointer (some q)] (.panicking ({v:=.iface 35 (.int .i64 er),recovered:=false}::older)) w fun e u' w'=>
  e=.returned (.tuple #[])∧u'=.panicking ({v:=.iface 35 (.int .i64 er),recovered:=true}::older)∧w'=w.setCell p (.int .i64 er):=by
 refine callsD_of_wpS Tryz.func60 rfl fun c₀ cs hu=>?_
 apply wpS_seq
 apply wpS_region
 simp[wpOpsS,go_sem,recoverD,hu,Tryz.ntmps60,Exit.thenS]
 refine wpS_of_wp ?_
 have ha:=ta_errno er w
 change Code.wp _ _ _ {tmps:=#[.pointer (some p),.pointer (some q),undef,undef,.iface 35 (.int .i64 er),undef,undef,undef,undef,undef,undef,undef,undef,undef,undef,undef],defers:=[]} w
 go_wp2
 exact⟨rfl,_,rfl,.tuple #[],by simp[results,Tryz.results60],rfl,rfl,rfl⟩
theorem catch_idle (p q:Addr)(w:World):
 CallsD Tryz.prog 60 #[.pointer (some p),.pointer (some q)] .returning w fun e u' w'=>e=.returned (.tuple #[])∧u'=.returning∧w'=w:=by
 refine callsD_of_wpS Tryz.func60 rfl fun c₀ cs hu=>?_
 apply wpS_seq
 apply wpS_region
 simp[wpOpsS,go_sem,recoverD,hu,Tryz.ntmps60,Exit.thenS]
 refine wpS_of_wp ?_
 have ha:=ta_nil_no w
 have hb:=ta_nil_no2 w
 change Code.wp _ _ _ {tmps:=#[.pointer (some p),.pointer (some q),undef,undef,.nilIface,undef,undef,undef,undef,undef,undef,undef,undef,undef,undef,undef],defers:=[]} w
 go_wp2
 cases c₀
 simp only at hu
 subst hu
 exact⟨rfl,_,rfl,.tuple #[],by simp[results,Tryz.results60],rfl,rfl,rfl⟩
theorem catch_fault (P Q B:Nat)(x y at_ er:Int)(older:List PanicEntry)(w:World)(hne: ¬P=Q)(hP:B≤P)(hQ:B≤Q)(hPw:P<w.heap.size)(hQw:Q<w.heap.size)
 (hc:w.cell? ⟨P,0,none⟩=some (.int .i64 x)) (hd:w.cell? ⟨Q,0,none⟩=some (.int .i64 y)) (hz:w.frozen? ⟨P,0,none⟩=false) (hy:w.frozen? ⟨Q,0,none⟩=false):
 CallsD Tryz.prog 60 #[.pointer (some ⟨P,0,none⟩),.pointer (some ⟨Q,0,none⟩)] (.panicking ({v:=.iface 107 (.agg #[.int .i64 at_,.int .i64 er]),recovered:=false}::older)) w fun e u' w'=>
  e=.returned (.tuple #[])∧u'=.panicking ({v:=.iface 107 (.agg #[.int .i64 at_,.int .i64 er]),recovered:=true}::older)∧Below B w w'∧w'.cell? ⟨P,0,none⟩=some (.int .i64 er)∧w'.cell? ⟨Q,0,none⟩=some (.int .i64 at_):=by
 refine callsD_of_wpS Tryz.func60 rfl fun c₀ cs hu=>?_
 apply wpS_seq
 apply wpS_region
 simp[wpOpsS,go_sem,recoverD,hu,Tryz.ntmps60,Exit.thenS]
 refine wpS_of_wp ?_
 have ha:=ta_fault_no (.agg #[.int .i64 at_,.int .i64 er]) w
 have hb:=ta_fault (.agg #[.int .i64 at_,.int .i64 er]) w
 change Code.wp _ _ _ {tmps:=#[.pointer (some ⟨P,0,none⟩),.pointer (some ⟨Q,0,none⟩),undef,undef,.iface 107 (.agg #[.int .i64 at_,.int .i64 er]),undef,undef,undef,undef,undef,undef,undef,undef,undef,undef,undef],defers:=[]} w
 go_wp2
 go_region
 go_wp2
 refine⟨rfl,_,rfl,.tuple #[],by simp[results,Tryz.results60],rfl,rfl,?_,?_,?_⟩
 ·exact((((br_ B w).setCell hQ _).setCell hP _).alloc (by simp[World.setCell];omega) _).drew
 ·show World.cell? (World.alloc _ _) _=_
  rw[World.cell?_alloc_lt _ _ _ (by simpa[World.setCell] using hPw)]
  exact World.cell?_setCell_same _ _ _ (u:=.int .i64 x) (by rw[World.cell?_setCell_other _ _ _ _ (by intro hh;injection hh with h1 _;exact hne h1.symm)];exact hc)
 ·show World.cell? (World.alloc _ _) _=_
  rw[World.cell?_alloc_lt _ _ _ (by simpa[World.setCell] using hQw),World.cell?_setCell_other _ _ _ _ (by intro hh;injection hh with h1 _;exact hne h1)]
  exact World.cell?_setCell_same _ _ _ hd
theorem caught_ok (f:FuncId)(cap:Array Value)(w:World)(R:World→Prop)
 (hent: ∀args w,(callFunc f args).run Tryz.prog w=.ok (.enter f args) w)
 (h: ∀W,Below w.heap.size w W→w.heap.size+2≤W.heap.size→Calls Tryz.prog f cap W fun e w'=>e=.returned (.tuple #[])∧R w'∧W.heap.size≤w'.heap.size∧(∀g,w.heap.size≤g→g<w.heap.size+2→w'.heap[g]? =W.heap[g]?)):
 Calls Tryz.prog 26 #[.func (.func f) #[] cap] w fun e w'=>e=.returned (.tuple #[.int .i64 0,.int .i64 0])∧∃w3,R w3∧w.heap.size+2≤w3.heap.size∧Below w.heap.size w3 w'∧∀p:Addr,w.heap.size+2≤p.block→w'.cell? p=w3.cell? p:=by
 have hmf: ∀(fn:Fn) (first cap:Array Value) (w:World),(Instr.makeFunc fn first cap).run Tryz.prog w=.ok (.func fn first cap) w:=fun _ _ _ _=>rfl
 go_enter_defers Tryz.func26,Tryz.ntmps26
 go_wp2_with fail
 have hb2:Below w.heap.size w ((w.alloc (.cells #[.int .i64 0] 3)).alloc (.cells #[.int .i64 0] 35)):=((br_ _ _).alloc (lr_ _) _).alloc (by simp) _
 have hs2:((w.alloc (.cells #[.int .i64 0] 3)).alloc (.cells #[.int .i64 0] 35)).heap.size=w.heap.size+2:=by simp
 have b0:((w.alloc (.cells #[.int .i64 0] 3)).alloc (.cells #[.int .i64 0] 35)).heap[w.heap.size]? =some (.cells #[.int .i64 0] 3):=by rw[heap_old _ _ (by simp)];exact heap_new _ _
 have b1:((w.alloc (.cells #[.int .i64 0] 3)).alloc (.cells #[.int .i64 0] 35)).heap[w.heap.size+1]? =some (.cells #[.int .i64 0] 35):=heap_at _ _ _ (by simp)
 refine(h _ hb2 (by omega)).mono ?_
 rintro e w3 ⟨rfl,hR,hsz,hk⟩
 have k0:=(hk w.heap.size (lr_ _) (by omega)).trans b0
 have k1:=(hk (w.heap.size+1) (by omega) (by omega)).trans b1
 have h3:w.heap.size+2≤w3.heap.size:=by omega
 have c0:w3.cell? ⟨w.heap.size,0,none⟩=some (.int .i64 0):=by rw[ch_ k0];rfl
 have c1:w3.cell? ⟨w.heap.size+1,0,none⟩=some (.int .i64 0):=by rw[ch_ k1];rfl
 have f0:w3.frozen? ⟨w.heap.size,0,none⟩=false:=by unfold World.frozen?;rw[k0];rfl
 have f1:w3.frozen? ⟨w.heap.size+1,0,none⟩=false:=by unfold World.frozen?;rw[k1];rfl
 clear h hb2 hs2 b0 b1 hk k0 k1 hsz
 go_wp2
 have hB:Below w.heap.size w3 ((w3.setCell ⟨w.heap.size,0,none⟩ (.int .i64 0)).setCell ⟨w.heap.size+1,0,none⟩ (.int .i64 0)):=((br_ w.heap.size w3).setCell (show w.heap.size≤(⟨w.heap.size,0,none⟩:Addr).block from lr_ _) _).setCell (show w.heap.size≤(⟨w.heap.size+1,0,none⟩:Addr).block from Nat.le_succ _) _
 have d0:((w3.setCell ⟨w.heap.size,0,none⟩ (.int .i64 0)).setCell ⟨w.heap.size+1,0,none⟩ (.int .i64 0)).cell? ⟨w.heap.size,0,none⟩=some (.int .i64 0):=by
  rw[World.cell?_setCell_other _ _ _ _ (by intro hh;injection hh with h1 _;omega)]
  exact World.cell?_setCell_same _ _ _ c0
 have d1:((w3.setCell ⟨w.heap.size,0,none⟩ (.int .i64 0)).setCell ⟨w.heap.size+1,0,none⟩ (.int .i64 0)).cell? ⟨w.heap.size+1,0,none⟩=some (.int .i64 0):=
  World.cell?_setCell_same _ _ _ (u:=.int .i64 0) (by rw[World.cell?_setCell_other _ _ _ _ (by intro hh;injection hh with h1 _;omega)];exact c1)
 have hfar: ∀p:Addr,w.heap.size+2≤p.block→((w3.setCell ⟨w.heap.size,0,none⟩ (.int .i64 0)).setCell ⟨w.heap.size+1,0,none⟩ (.int .i64 0)).cell? p=w3.cell? p:=fun p hp=>by
  rw[World.cell?_setCell_other _ _ _ _ (by intro hh;rw[←hh] at hp;simp at hp;try omega),World.cell?_setCell_other _ _ _ _ (by intro hh;rw[←hh] at hp;simp at hp;try omega)]
 generalize (w3.setCell ⟨w.heap.size,0,none⟩ (.int .i64 0)).setCell ⟨w.heap.size+1,0,none⟩ (.int .i64 0)=w4 at hB d0 d1 hfar⊢
 refine leaves_cons (f:=60) (args:=#[.pointer (some ⟨w.heap.size+1,0,none⟩),.pointer (some ⟨w.heap.size,0,none⟩)]) (by simp) (by simp[go_sem]) ?_
 refine(catch_idle _ _ _).mono ?_
 rintro e u' w'' ⟨rfl,rfl,rfl⟩
 simp[Leaves,settle,results,Tryz.results26,go_sem,d0,d1]
 exact⟨w3,hR,h3,hB,hfar⟩
theorem caught_errno (f:FuncId)(cap:Array Value)(w:World)(er:Int)(R:World→Prop)
 (hent: ∀args w,(callFunc f args).run Tryz.prog w=.ok (.enter f args) w)
 (h: ∀W,Below w.heap.size w W→w.heap.size+2≤W.heap.size→Calls Tryz.prog f cap W fun e w'=>e=.panicked (Up (.iface 35 (.int .i64 er)))∧R w'∧W.heap.size≤w'.heap.size∧(∀g,w.heap.size≤g→g<w.heap.size+2→w'.heap[g]? =W.heap[g]?)):
 Calls Tryz.prog 26 #[.func (.func f) #[] cap] w fun e w'=>e=.returned (.tuple #[.int .i64 0,.int .i64 er])∧∃w3,R w3∧w.heap.size+2≤w3.heap.size∧Below w.heap.size w3 w':=by
 have hmf: ∀(fn:Fn) (first cap:Array Value) (w:World),(Instr.makeFunc fn first cap).run Tryz.prog w=.ok (.func fn first cap) w:=fun _ _ _ _=>rfl
 go_enter_defers Tryz.func26,Tryz.ntmps26
 go_wp2_with fail
 have hb2:Below w.heap.size w ((w.alloc (.cells #[.int .i64 0] 3)).alloc (.cells #[.int .i64 0] 35)):=((br_ _ _).alloc (lr_ _) _).alloc (by simp) _
 have hs2:((w.alloc (.cells #[.int .i64 0] 3)).alloc (.cells #[.int .i64 0] 35)).heap.size=w.heap.size+2:=by simp
 have b0:((w.alloc (.cells #[.int .i64 0] 3)).alloc (.cells #[.int .i64 0] 35)).heap[w.heap.size]? =some (.cells #[.int .i64 0] 3):=by rw[heap_old _ _ (by simp)];exact heap_new _ _
 have b1:((w.alloc (.cells #[.int .i64 0] 3)).alloc (.cells #[.int .i64 0] 35)).heap[w.heap.size+1]? =some (.cells #[.int .i64 0] 35):=heap_at _ _ _ (by simp)
 refine(h _ hb2 (by omega)).mono ?_
 rintro e w3 ⟨rfl,hR,hsz,hk⟩
 have k0:=(hk w.heap.size (lr_ _) (by omega)).trans b0
 have k1:=(hk (w.heap.size+1) (by omega) (by omega)).trans b1
 have h3:w.heap.size+2≤w3.heap.size:=by omega
 have c0:w3.cell? ⟨w.heap.size,0,none⟩=some (.int .i64 0):=by rw[ch_ k0];rfl
 have c1:w3.cell? ⟨w.heap.size+1,0,none⟩=some (.int .i64 0):=by rw[ch_ k1];rfl
 have f0:w3.frozen? ⟨w.heap.size,0,none⟩=false:=by unfold World.frozen?;rw[k0];rfl
 have f1:w3.frozen? ⟨w.heap.size+1,0,none⟩=false:=by unfold World.frozen?;rw[k1];rfl
 clear h hb2 hs2 b0 b1 hk k0 k1 hsz
 unfold Up
 go_wp2
 refine leaves_cons (f:=60) (args:=#[.pointer (some ⟨w.heap.size+1,0,none⟩),.pointer (some ⟨w.heap.size,0,none⟩)]) (by simp) (by simp[go_sem]) ?_
 refine(catch_errno _ _ 0 0 er [] _ c1 f1).mono ?_
 rintro e u' w'' ⟨rfl,rfl,rfl⟩
 have hB:Below w.heap.size w3 (w3.setCell ⟨w.heap.size+1,0,none⟩ (.int .i64 er)):=(br_ w.heap.size w3).setCell (show w.heap.size≤(⟨w.heap.size+1,0,none⟩:Addr).block from Nat.le_succ _) _
 have d0:(w3.setCell ⟨w.heap.size+1,0,none⟩ (.int .i64 er)).cell? ⟨w.heap.size,0,none⟩=some (.int .i64 0):=by
  rw[World.cell?_setCell_other _ _ _ _ (by intro hh;injection hh with h1 _;omega)];exact c0
 have d1:(w3.setCell ⟨w.heap.size+1,0,none⟩ (.int .i64 er)).cell? ⟨w.heap.size+1,0,none⟩=some (.int .i64 er):=World.cell?_setCell_same _ _ _ c1
 generalize w3.setCell ⟨w.heap.size+1,0,none⟩ (.int .i64 er)=w4 at hB d0 d1⊢
 simp[Leaves,settle,results,Tryz.results26,go_sem,d0,d1]
 exact⟨w3,hR,h3,hB⟩
theorem caught_fault (f:FuncId)(cap:Array Value)(w:World)(at_ er:Int)(R:World→Prop)
 (hent: ∀args w,(callFunc f args).run Tryz.prog w=.ok (.enter f args) w)
 (h: ∀W,Below w.heap.size w W→w.heap.size+2≤W.heap.size→Calls Tryz.prog f cap W fun e w'=>e=.panicked (Up (.iface 107 (.agg #[.int .i64 at_,.int .i64 er])))∧R w'∧W.heap.size≤w'.heap.size∧(∀g,w.heap.size≤g→g<w.heap.size+2→w'.heap[g]? =W.heap[g]?)):
 Calls Tryz.prog 26 #[.func (.func f) #[] cap] w fun e w'=>e=.returned (.tuple #[.int .i64 at_,.int .i64 er])∧∃w3,R w3∧w.heap.size+2≤w3.heap.size∧Below w.heap.size w3 w':=by
 have hmf: ∀(fn:Fn) (first cap:Array Value) (w:World),(Instr.makeFunc fn first cap).run Tryz.prog w=.ok (.func fn first cap) w:=fun _ _ _ _=>rfl
 go_enter_defers Tryz.func26,Tryz.ntmps26
 go_wp2_with fail
 have hb2:Below w.heap.size w ((w.alloc (.cells #[.int .i64 0] 3)).alloc (.cells #[.int .i64 0] 35)):=((br_ _ _).alloc (lr_ _) _).alloc (by simp) _
 have hs2:((w.alloc (.cells #[.int .i64 0] 3)).alloc (.cells #[.int .i64 0] 35)).heap.size=w.heap.size+2:=by simp
 have b0:((w.alloc (.cells #[.int .i64 0] 3)).alloc (.cells #[.int .i64 0] 35)).heap[w.heap.size]? =some (.cells #[.int .i64 0] 3):=by rw[heap_old _ _ (by simp)];exact heap_new _ _
 have b1:((w.alloc (.cells #[.int .i64 0] 3)).alloc (.cells #[.int .i64 0] 35)).heap[w.heap.size+1]? =some (.cells #[.int .i64 0] 35):=heap_at _ _ _ (by simp)
 refine(h _ hb2 (by omega)).mono ?_
 rintro e w3 ⟨rfl,hR,hsz,hk⟩
 have k0:=(hk w.heap.size (lr_ _) (by omega)).trans b0
 have k1:=(hk (w.heap.size+1) (by omega) (by omega)).trans b1
 have h3:w.heap.size+2≤w3.heap.size:=by omega
 have c0:w3.cell? ⟨w.heap.size,0,none⟩=some (.int .i64 0):=by rw[ch_ k0];rfl
 have c1:w3.cell? ⟨w.heap.size+1,0,none⟩=some (.int .i64 0):=by rw[ch_ k1];rfl
 have f0:w3.frozen? ⟨w.heap.size,0,none⟩=false:=by unfold World.frozen?;rw[k0];rfl
 have f1:w3.frozen? ⟨w.heap.size+1,0,none⟩=false:=by unfold World.frozen?;rw[k1];rfl
 clear h hb2 hs2 b0 b1 hk k0 k1 hsz
 unfold Up
 go_wp2
 refine leaves_cons (f:=60) (args:=#[.pointer (some ⟨w.heap.size+1,0,none⟩),.pointer (some ⟨w.heap.size,0,none⟩)]) (by simp) (by simp[go_sem]) ?_
 refine(catch_fault (w.heap.size+1) w.heap.size w.heap.size 0 0 at_ er [] _ (by omega) (by omega) (by omega) (by omega) (by omega) c1 c0 f1 f0).mono ?_
 rintro e u' w4 ⟨rfl,rfl,hB,d1,d0⟩
 simp[Leaves,settle,results,Tryz.results26,go_sem,d0,d1]
 exact⟨w3,hR,h3,hB⟩
end Go.Proofs.YtkjkhoglkpepiaaGreatDoor.ndc
namespace Go.Proofs.YtkjkhoglkpepiaaGreatDoor.ndc
open Go.RowKit tlvc tlvd txc
theorem readF_spot {d outer:Nat}{xs:List Int}{at_ F T:Nat}{t:Int}(hh:(headF (xs.drop at_)).1=0)(eF:F=at_+ (headF (xs.drop at_)).2.2.1.toNat)(eT:T=F+ (headF (xs.drop at_)).2.2.2.toNat)(et:t=(headF (xs.drop at_)).2.1):
 readF (d+1) outer xs at_=if aloneF t ((xs.take T).drop F) outer≠0 then .bad at_ (aloneF t ((xs.take T).drop F) outer) else if compB t=false then .ok (.mk t ((xs.take T).drop F) []) T else kidsF (readF d (outer+1) (xs.take T)) (xs.take T) F T t at_:=by
 conv=>lhs;unfold readF
 simp only
 rw[if_neg (by simp[hh]),←eF,←eT,←et]
 rfl
theorem reads_all: ∀d outer:Nat,d+outer=32→Reads (d+1) outer
 |d,outer,hdo=>by
  intro A n c xs at_ w hx hc hm hat hT
  by_cases hh:(headF (xs.drop at_)).1=0
  ·obtain⟨t,F,T,hs,eF,eT,et⟩:=spot_of hx.2.1 (by rw[hx.1];exact hat) hh
   rw[readF_spot hh eF eT et]
   by_cases ho:aloneF t ((xs.take T).drop F) outer=0
   ·rw[if_neg (by simp[ho])]
    by_cases hcp:compB t=false
    ·rw[if_pos hcp]
     exact read_plain outer A n c xs at_ F T t w hx hc hm hs hT ho hcp
    ·rw[if_neg hcp]
     have hou:outer<32:=by
      rcases Nat.lt_or_ge outer 32 with h |h
      ·exact h
      ·unfold aloneF at ho;rw[if_pos h] at ho;cases ho
     obtain⟨d',rfl⟩: ∃d',d=d'+1:=⟨d - 1,by omega⟩
     exact read_comp (d'+1) outer (reads_all d' (outer+1) (by omega)) A n c xs at_ F T t w hx hc hm hs hT hou ho (by simpa using hcp)
   ·rw[if_pos ho]
    exact read_own outer A n c xs at_ F T t w hx hc hm hs hT ho
  ·exact read_bad d outer A n c xs at_ w hx hc hm hat hh
def readAllF (xs:List Int):RR:=
 match readF 33 0 xs 0 with
 | .bad a e=>.bad a e
 | .ok n nx=>if nx<xs.length then .bad nx 44 else .ok n nx
def APost (w:World)(r:RR)(e:Ending)(w':World):Prop:=
 Below w.heap.size w w'∧match r with
 | .bad a er=>e=Fault a er
 | .ok n nx=>∃v,e=.returned v∧NdV (fun g=>w.heap.size≤g) w' n v
theorem readAll_any (A:Option Addr)(n c:Nat)(xs:List Int)(w:World)(hx:Bys w A n xs)(hc:n≤c)(hm:c≤maxLen)(hT:Tabs w):
 Calls Tryz.prog 41 #[.slice A n c] w (APost w (readAllF xs)):=by
 have hl:=hx.1
 have hbw:Below w.heap.size w (w.alloc (.cells #[.int .u8 0,.slice none 0 0,.slice none 0 0] 43)):=(br_ _ _).alloc (lr_ _) _
 have hrd:=reads_all 32 0 rfl A n c xs 0 (w.alloc (.cells #[.int .u8 0,.slice none 0 0,.slice none 0 0] 43)) (hx.below hbw) hc hm (Nat.zero_le _) (hT.below hbw)
 obtain⟨R,hR⟩:=nm_ (readF 33 0 xs 0)
 rw[hR] at hrd
 obtain⟨RES,hRES⟩:=nm_ (readAllF xs)
 rw[hRES]
 unfold readAllF at hRES
 rw[hR,hl] at hRES
 have HR:=hd_ hrd
 have HRES:=hd_ hRES
 clear hrd hR hRES hx
 go_enter Tryz.func41,Tryz.ntmps41
 go_wp2_with fail
 refine HR.out.mono ?_
 rintro e w1 ⟨hb1,hpost⟩
 have hP0:w1.heap[w.heap.size]? =some (.cells #[.int .u8 0,.slice none 0 0,.slice none 0 0] 43):=(hb1.block _ (by simp)).trans (heap_new_ _ _)
 have hs1:=hb1.size
 have hs2:w.heap.size<w1.heap.size:=by simp at hs1;omega
 have hB1:=hbw.trans (hb1.mono hbw.size)
 clear HR hb1 hbw
 cases R with
 |bad a er=>
  simp only at hpost
  subst hpost
  have hE:RES=.bad a er:=HRES.out.symm
  subst hE
  unfold Fault
  go_wp2
  exact⟨rfl,hB1,rfl⟩
 |ok nd nx=>
  obtain⟨v,rfl,c0,c1,c2,rfl,hnd⟩:=hpost
  obtain⟨tk,Ak,lak,cak,Kk,lkk,ckk,ec0,ec1,ec2⟩:=hnd.shape
  subst ec0 ec1 ec2
  by_cases hlt:nx<n
  ·have hltz:(nx:Int)< (n:Int):=by omega
   have hE:RES=.bad nx 44:=HRES.out.symm.trans (if_pos hlt)
   subst hE
   go_wp2
   exact⟨rfl,hB1.alloc hB1.size _,rfl⟩
  ·have hltz: ¬(nx:Int)< (n:Int):=by omega
   have hE:RES=.ok nd nx:=HRES.out.symm.trans (if_neg hlt)
   subst hE
   have hq:(w1.alloc (.cells #[.int .u8 tk,.slice Ak lak cak,.slice Kk lkk ckk] 43)).heap[w.heap.size]? =some (.cells #[.int .u8 0,.slice none 0 0,.slice none 0 0] 43):=(heap_old_ _ _ hs2).trans hP0
   have d0:(w1.alloc (.cells #[.int .u8 tk,.slice Ak lak cak,.slice Kk lkk ckk] 43)).cell? ⟨w.heap.size,0,none⟩=some (.int .u8 0):=by rw[ch_ hq];rfl
   have d1:(w1.alloc (.cells #[.int .u8 tk,.slice Ak lak cak,.slice Kk lkk ckk] 43)).cell? ⟨w.heap.size,1,none⟩=some (.slice none 0 0):=by rw[ch_ hq];rfl
   have d2:(w1.alloc (.cells #[.int .u8 tk,.slice Ak lak cak,.slice Kk lkk ckk] 43)).cell? ⟨w.heap.size,2,none⟩=some (.slice none 0 0):=by rw[ch_ hq];rfl
   have g0:(w1.alloc (.cells #[.int .u8 tk,.slice Ak lak cak,.slice Kk lkk ckk] 43)).frozen? ⟨w.heap.size,0,none⟩=false:=fh_ hq _
   have g1:(w1.alloc (.cells #[.int .u8 tk,.slice Ak lak cak,.slice Kk lkk ckk] 43)).frozen? ⟨w.heap.size,1,none⟩=false:=fh_ hq _
   have g2:(w1.alloc (.cells #[.int .u8 tk,.slice Ak lak cak,.slice Kk lkk ckk] 43)).frozen? ⟨w.heap.size,2,none⟩=false:=fh_ hq _
   have hn2:NdC (fun g=>w.heap.size+1≤g) (w1.alloc (.cells #[.int .u8 tk,.slice Ak lak cak,.slice Kk lkk ckk] 43)) nd (.int .u8 tk) (.slice Ak lak cak) (.slice Kk lkk ckk):=
    NdC.mono (fun g hg=>by have hg:(w.alloc _).heap.size≤g:=hg;simp at hg;omega) _ _ _ _ (NdC.below ((br_ _ _).alloc (lr_ _) _) _ _ _ _ hnd)
   obtain⟨W2,hW2⟩:=nm_ (w1.alloc (.cells #[.int .u8 tk,.slice Ak lak cak,.slice Kk lkk ckk] 43))
   have hB2:Below w.heap.size w W2:=by rw[←hW2];exact hB1.alloc hB1.size _
   rw[hW2] at d0 d1 d2 g0 g1 g2 hn2
   have hks:W2.cell? ⟨w1.heap.size,0,none⟩=some (.int .u8 tk)∧W2.cell? ⟨w1.heap.size,1,none⟩=some (.slice Ak lak cak)∧W2.cell? ⟨w1.heap.size,2,none⟩=some (.slice Kk lkk ckk):=by
    have hh:=heap_new_ w1 (.cells #[.int .u8 tk,.slice Ak lak cak,.slice Kk lkk ckk] 43)
    rw[hW2] at hh
    exact⟨by rw[ch_ hh];rfl,by rw[ch_ hh];rfl,by rw[ch_ hh];rfl⟩
   obtain⟨k0,k1,k2⟩:=hks
   obtain⟨r0,r1,r2,hbl,hk⟩:=three_set W2 w.heap.size w.heap.size _ _ _ (.int .u8 tk) (.slice Ak lak cak) (.slice Kk lkk ckk) (lr_ _) d0 d1 d2
   have hend:NdV (fun g=>w.heap.size≤g) (((W2.setCell ⟨w.heap.size,0,none⟩ (.int .u8 tk)).setCell ⟨w.heap.size,1,none⟩ (.slice Ak lak cak)).setCell ⟨w.heap.size,2,none⟩ (.slice Kk lkk ckk)) nd (.agg #[.int .u8 tk,.slice Ak lak cak,.slice Kk lkk ckk]):=
    ⟨_,_,_,rfl,NdC.mono (fun g hg=>by have hg:w.heap.size+1≤g:=hg;show w.heap.size≤g;omega) _ _ _ _ (NdC.stays (w':=((W2.setCell ⟨w.heap.size,0,none⟩ (.int .u8 tk)).setCell ⟨w.heap.size,1,none⟩ (.slice Ak lak cak)).setCell ⟨w.heap.size,2,none⟩ (.slice Kk lkk ckk)) ⟨hbl.size,fun p hp _=>hk p (by have hp:w.heap.size+1≤p.block:=hp;omega)⟩ _ _ _ _ hn2)⟩
   have hB3:=hB2.trans hbl
   have HE:=hd_ (ai_ hB3 hend)
   clear hn2 hend hB3 hbl hk hnd hq hP0
   go_wp2_with fail
   refine bodyPost_ret (v:=.agg #[.int .u8 tk,.slice Ak lak cak,.slice Kk lkk ckk]) ?_ rfl ⟨HE.out.1,_,rfl,HE.out.2⟩
   simp[results,Tryz.results41,go_sem,r0,r1,r2]
def P1 (W:World)(nn:Nat)(r:RR)(e:Ending)(w':World):Prop:=
 match r with
 | .bad a er=>e=Fault a er∧Below W.heap.size W w'
 | .ok nd nx=>e=.returned (.tuple #[])∧∃c0 c1 c2 W2,Below W.heap.size W W2∧w'=((W2.setCell ⟨nn,0,none⟩ c0).setCell ⟨nn,1,none⟩ c1).setCell ⟨nn,2,none⟩ c2∧NdC (fun g=>W.heap.size≤g) W2 nd c0 c1 c2
theorem parse1_any (bb nn:Nat)(A:Option Addr)(n c:Nat)(xs:List Int)(W:World)(hx:Bys W A n xs)(hc:n≤c)(hm:c≤maxLen)(hT:Tabs W)
 (hb:W.cell? ⟨bb,0,none⟩=some (.slice A n c)) (hn:W.heap[nn]? =some (.cells #[.int .u8 0,.slice none 0 0,.slice none 0 0] 43)):
 Calls Tryz.prog 40 #[.pointer (some ⟨bb,0,none⟩),.pointer (some ⟨nn,0,none⟩)] W (P1 W nn (readAllF xs)):=by
 have hra:=readAll_any A n c xs W hx hc hm hT
 obtain⟨R,hR⟩:=nm_ (readAllF xs)
 rw[hR] at hra⊢
 have HR:=hd_ hra
 have hnl:nn<W.heap.size:=(Array.getElem?_eq_some_iff.1 hn).1
 clear hra hR hx
 go_enter Tryz.func40,Tryz.ntmps40
 go_wp2_with fail
 refine HR.out.mono ?_
 rintro e W2 ⟨hb2,hpost⟩
 clear HR
 cases R with
 |bad a er=>
  simp only at hpost
  subst hpost
  unfold Fault
  go_wp2
  exact⟨rfl,rfl,hb2⟩
 |ok nd nx=>
  obtain⟨v,rfl,c0,c1,c2,rfl,hnd⟩:=hpost
  obtain⟨tk,Ak,lak,cak,Kk,lkk,ckk,ec0,ec1,ec2⟩:=hnd.shape
  subst ec0 ec1 ec2
  have hn2:=(hb2.block nn hnl).trans hn
  have d0:W2.cell? ⟨nn,0,none⟩=some (.int .u8 0):=by rw[ch_ hn2];rfl
  have d1:W2.cell? ⟨nn,1,none⟩=some (.slice none 0 0):=by rw[ch_ hn2];rfl
  have d2:W2.cell? ⟨nn,2,none⟩=some (.slice none 0 0):=by rw[ch_ hn2];rfl
  have g0:W2.frozen? ⟨nn,0,none⟩=false:=fh_ hn2 _
  have g1:W2.frozen? ⟨nn,1,none⟩=false:=fh_ hn2 _
  have g2:W2.frozen? ⟨nn,2,none⟩=false:=fh_ hn2 _
  have HE:=hd_ (ai_ hb2 hnd)
  clear hnd hb2 hn2
  go_wp2
  first |refine bodyPost_ret (results_none rfl _ _ _) rfl ?_ |go_end0
  exact⟨rfl,_,_,_,W2,HE.out.1,rfl,HE.out.2⟩
def PPost (w:World)(r:RR)(e:Ending)(w':World):Prop:=
 Below w.heap.size w w'∧match r with
 | .bad a er=>e=.returned (.tuple #[.agg #[.int .u8 0,.slice none 0 0,.slice none 0 0],.int .i64 a,.int .i64 er])
 | .ok nd _=>∃v,e=.returned (.tuple #[v,.int .i64 0,.int .i64 0])∧NdV (fun g=>w.heap.size≤g) w' nd v
theorem parse_any (A:Option Addr)(n c:Nat)(xs:List Int)(w:World)(hx:Bys w A n xs)(hc:n≤c)(hm:c≤maxLen)(hT:Tabs w):
 Calls Tryz.prog 18 #[.slice A n c] w (PPost w (readAllF xs)):=by
 have hmf: ∀(fn:Fn) (first cap:Array Value) (w:World),(Instr.makeFunc fn first cap).run Tryz.prog w=.ok (.func fn first cap) w:=fun _ _ _ _=>rfl
 obtain⟨w0,hw0⟩:=nm_ (((w.alloc (.cells #[.slice A n c] 34)).alloc (.cells #[.int .u8 0,.slice none 0 0,.slice none 0 0] 43)).alloc (.cells #[.int .u8 0,.slice none 0 0,.slice none 0 0] 43))
 have hz:w0.heap.size=w.heap.size+3:=by rw[←hw0];simp
 have hbw:Below w.heap.size w w0:=by rw[←hw0];exact(((br_ _ _).alloc (lr_ _) _).alloc (by simp) _).alloc (by simp;omega) _
 have q0:w0.heap[w.heap.size]? =some (.cells #[.slice A n c] 34):=by rw[←hw0,heap_old_ _ _ (by simp;omega),heap_old_ _ _ (by simp)];exact heap_new_ _ _
 have q1:w0.heap[w.heap.size+1]? =some (.cells #[.int .u8 0,.slice none 0 0,.slice none 0 0] 43):=by
  rw[←hw0,heap_old_ _ _ (by simp)]
  have:=heap_new_ (w.alloc (.cells #[.slice A n c] 34)) (.cells #[.int .u8 0,.slice none 0 0,.slice none 0 0] 43)
  rwa[show(w.alloc (.cells #[.slice A n c] 34)).heap.size=w.heap.size+1 by simp] at this
 have q2:w0.heap[w.heap.size+2]? =some (.cells #[.int .u8 0,.slice none 0 0,.slice none 0 0] 43):=by
  rw[←hw0]
  have:=heap_new_ ((w.alloc (.cells #[.slice A n c] 34)).alloc (.cells #[.int .u8 0,.slice none 0 0,.slice none 0 0] 43)) (.cells #[.int .u8 0,.slice none 0 0,.slice none 0 0] 43)
  rwa[show((w.alloc (.cells #[.slice A n c] 34)).alloc (.cells #[.int .u8 0,.slice none 0 0,.slice none 0 0] 43)).heap.size=w.heap.size+2 by simp] at this
 have hent:=enters_of Tryz.func40 (by kernel_rfl) rfl
 have inner: ∀W,Below w0.heap.size w0 W→Calls Tryz.prog 40 #[.pointer (some ⟨w.heap.size,0,none⟩),.pointer (some ⟨w.heap.size+2,0,none⟩)] W (P1 W (w.heap.size+2) (readAllF xs)):=fun W hW=>
  parse1_any w.heap.size (w.heap.size+2) A n c xs W (hx.below (hbw.trans (hW.mono hbw.size))) hc hm (hT.below (hbw.trans (hW.mono hbw.size)))
   (by rw[ch_ ((hW.block _ (by omega)).trans q0)];rfl) ((hW.block _ (by omega)).trans q2)
 obtain⟨R,hR⟩:=nm_ (readAllF xs)
 rw[hR] at inner⊢
 cases R with
 |bad a er=>
  have hcg:=caught_fault 40 #[.pointer (some ⟨w.heap.size,0,none⟩),.pointer (some ⟨w.heap.size+2,0,none⟩)] w0 a er (fun w'=>Below w0.heap.size w0 w') hent
   (fun W hW hs=>(inner W hW).mono fun e w' h=>⟨h.1,hW.trans (h.2.mono hW.size),h.2.size,fun g h1 h2=>h.2.block g (by omega)⟩)
  have HC:=hd_ hcg
  clear hcg inner hR hx
  go_enter Tryz.func18,Tryz.ntmps18
  go_wp2_with fail
  refine HC.out.mono ?_
  rintro e w4 ⟨rfl,w3,hb3,hz3,hb4⟩
  have hB4:Below w0.heap.size w0 w4:=hb3.trans hb4
  have m1:=(hB4.block (w.heap.size+1) (by omega)).trans q1
  have m2:=(hB4.block (w.heap.size+1+1) (by omega)).trans q2
  have hBw:=hbw.trans (hB4.mono hbw.size)
  clear hw0 q0 q1 q2 hb3 hb4 hB4 HC hbw
  have d0:w4.cell? ⟨w.heap.size+1,0,none⟩=some (.int .u8 0):=by rw[ch_ m1];rfl
  have d1:w4.cell? ⟨w.heap.size+1,1,none⟩=some (.slice none 0 0):=by rw[ch_ m1];rfl
  have d2:w4.cell? ⟨w.heap.size+1,2,none⟩=some (.slice none 0 0):=by rw[ch_ m1];rfl
  have e0:w4.cell? ⟨w.heap.size+1+1,0,none⟩=some (.int .u8 0):=by rw[ch_ m2];rfl
  have e1:w4.cell? ⟨w.heap.size+1+1,1,none⟩=some (.slice none 0 0):=by rw[ch_ m2];rfl
  have e2:w4.cell? ⟨w.heap.size+1+1,2,none⟩=some (.slice none 0 0):=by rw[ch_ m2];rfl
  have g0:w4.frozen? ⟨w.heap.size+1,0,none⟩=false:=fh_ m1 _
  have g1:w4.frozen? ⟨w.heap.size+1,1,none⟩=false:=fh_ m1 _
  have g2:w4.frozen? ⟨w.heap.size+1,2,none⟩=false:=fh_ m1 _
  obtain⟨r0,r1,r2,hbl,_⟩:=three_set w4 (w.heap.size+1) w.heap.size _ _ _ (.int .u8 0) (.slice none 0 0) (.slice none 0 0) (Nat.le_succ _) d0 d1 d2
  have HE:=hd_ (hBw.trans hbl)
  clear m1 m2 hBw hbl
  go_wp2_with fail
  refine bodyPost_ret (v:=.tuple #[.agg #[.int .u8 0,.slice none 0 0,.slice none 0 0],.int .i64 a,.int .i64 er]) ?_ rfl ⟨HE.out,rfl⟩
  simp[results,Tryz.results18,go_sem,r0,r1,r2]
 |ok nd nx=>
  have hcg:=caught_ok 40 #[.pointer (some ⟨w.heap.size,0,none⟩),.pointer (some ⟨w.heap.size+2,0,none⟩)] w0 (fun w'=>∃c0 c1 c2,NdC (fun g=>w0.heap.size+2≤g) w' nd c0 c1 c2∧w'.heap[w.heap.size+1+1]? =some (.cells #[c0,c1,c2] 43)∧w'.heap[w.heap.size+1]? =some (.cells #[.int .u8 0,.slice none 0 0,.slice none 0 0] 43)∧Below w.heap.size w w') hent
   (fun W hW hs=>(inner W hW).mono fun e w' h=>by
     obtain⟨he,c0,c1,c2,W2,hb2,rfl,hnd⟩:=h
     have z1:=hb2.size
     have u2:=(hb2.block (w.heap.size+1+1) (by omega)).trans ((hW.block (w.heap.size+1+1) (by omega)).trans q2)
     have u1:=(hb2.block (w.heap.size+1) (by omega)).trans ((hW.block (w.heap.size+1) (by omega)).trans q1)
     have far: ∀g,g≠w.heap.size+2→(((W2.setCell ⟨w.heap.size+2,0,none⟩ c0).setCell ⟨w.heap.size+2,1,none⟩ c1).setCell ⟨w.heap.size+2,2,none⟩ c2).heap[g]? =W2.heap[g]? :=fun g hg=>by
      rw[set_heap_other _ _ _ _ _ hg,set_heap_other _ _ _ _ _ hg,set_heap_other _ _ _ _ _ hg]
     have sz:(((W2.setCell ⟨w.heap.size+2,0,none⟩ c0).setCell ⟨w.heap.size+2,1,none⟩ c1).setCell ⟨w.heap.size+2,2,none⟩ c2).heap.size=W2.heap.size:=by rw[set_size,set_size,set_size]
     refine⟨he,⟨c0,c1,c2,?_,?_,?_,?_⟩,by rw[sz];exact hb2.size,fun g h1 h2=>(far g (by omega)).trans (hb2.block g (by omega))⟩
     ·exact NdC.below2 (B:=fun g=>W.heap.size≤g) ⟨by rw[sz];exact lr_ _,fun p hp _=>cell_same (far p.block (by have hp:W.heap.size≤p.block:=hp;omega))⟩ hnd (fun g hg _=>by have hg:W.heap.size≤g:=hg;show w0.heap.size+2≤g;omega)
     ·exact set_heap _ _ 2 c2 _ _ _ (set_heap _ _ 1 c1 _ _ _ (set_heap _ _ 0 c0 _ _ _ u2))
     ·exact(far _ (by omega)).trans u1
     ·have hB:=(hbw.trans (hW.mono hbw.size)).trans (hb2.mono (by have:=hW.size;have:=hbw.size;omega))
      exact((hB.setCell (show w.heap.size≤(⟨w.heap.size+2,0,none⟩:Addr).block from by show _≤w.heap.size+2;omega) c0).setCell (show w.heap.size≤(⟨w.heap.size+2,1,none⟩:Addr).block from by show _≤w.heap.size+2;omega) c1).setCell (show w.heap.size≤(⟨w.heap.size+2,2,none⟩:Addr).block from by show _≤w.heap.size+2;omega) c2)
  have HC:=hd_ hcg
  clear hcg inner hR hx
  go_enter Tryz.func18,Tryz.ntmps18
  go_wp2_with fail
  refine HC.out.mono ?_
  rintro e w4 ⟨rfl,w3,⟨c0,c1,c2,hnd,u2,u1,hB3⟩,hz3,hb4,hfar⟩
  obtain⟨tk,Ak,lak,cak,Kk,lkk,ckk,ec0,ec1,ec2⟩:=hnd.shape
  subst ec0 ec1 ec2
  have m1:=(hb4.block (w.heap.size+1) (by omega)).trans u1
  have m2:=(hb4.block (w.heap.size+1+1) (by omega)).trans u2
  have hBw:=hB3.trans (hb4.mono hbw.size)
  have hn4:NdC (fun g=>w0.heap.size+2≤g) w4 nd (.int .u8 tk) (.slice Ak lak cak) (.slice Kk lkk ckk):=NdC.stays ⟨hb4.size,fun p hp _=>hfar p hp⟩ _ _ _ _ hnd
  clear hw0 q0 q1 q2 hb4 HC u1 u2 hB3 hnd hfar
  have d0:w4.cell? ⟨w.heap.size+1,0,none⟩=some (.int .u8 0):=by rw[ch_ m1];rfl
  have d1:w4.cell? ⟨w.heap.size+1,1,none⟩=some (.slice none 0 0):=by rw[ch_ m1];rfl
  have d2:w4.cell? ⟨w.heap.size+1,2,none⟩=some (.slice none 0 0):=by rw[ch_ m1];rfl
  have e0:w4.cell? ⟨w.heap.size+1+1,0,none⟩=some (.int .u8 tk):=by rw[ch_ m2];rfl
  have e1:w4.cell? ⟨w.heap.size+1+1,1,none⟩=some (.slice Ak lak cak):=by rw[ch_ m2];rfl
  have e2:w4.cell? ⟨w.heap.size+1+1,2,none⟩=some (.slice Kk lkk ckk):=by rw[ch_ m2];rfl
  have g0:w4.frozen? ⟨w.heap.size+1,0,none⟩=false:=fh_ m1 _
  have g1:w4.frozen? ⟨w.heap.size+1,1,none⟩=false:=fh_ m1 _
  have g2:w4.frozen? ⟨w.heap.size+1,2,none⟩=false:=fh_ m1 _
  obtain⟨r0,r1,r2,hbl,hk⟩:=three_set w4 (w.heap.size+1) w.heap.size _ _ _ (.int .u8 tk) (.slice Ak lak cak) (.slice Kk lkk ckk) (Nat.le_succ _) d0 d1 d2
  have hend:NdV (fun g=>w.heap.size≤g) (((w4.setCell ⟨w.heap.size+1,0,none⟩ (.int .u8 tk)).setCell ⟨w.heap.size+1,1,none⟩ (.slice Ak lak cak)).setCell ⟨w.heap.size+1,2,none⟩ (.slice Kk lkk ckk)) nd (.agg #[.int .u8 tk,.slice Ak lak cak,.slice Kk lkk ckk]):=
   ⟨_,_,_,rfl,NdC.mono (fun g hg=>by have hg:w0.heap.size+2≤g:=hg;show w.heap.size≤g;omega) _ _ _ _ (NdC.stays (w':=((w4.setCell ⟨w.heap.size+1,0,none⟩ (.int .u8 tk)).setCell ⟨w.heap.size+1,1,none⟩ (.slice Ak lak cak)).setCell ⟨w.heap.size+1,2,none⟩ (.slice Kk lkk ckk)) ⟨hbl.size,fun p hp _=>hk p (by have hp:w0.heap.size+2≤p.block:=hp;omega)⟩ _ _ _ _ hn4)⟩
  have HE:=hd_ (ai_ (hBw.trans hbl) hend)
  clear m1 m2 hBw hbl hk hend hn4
  go_wp2_with fail
  refine bodyPost_ret (v:=.tuple #[.agg #[.int .u8 tk,.slice Ak lak cak,.slice Kk lkk ckk],.int .i64 0,.int .i64 0]) ?_ rfl ⟨HE.out.1,_,rfl,HE.out.2⟩
  simp[results,Tryz.results18,go_sem,r0,r1,r2]
end Go.Proofs.YtkjkhoglkpepiaaGreatDoor.ndc
