/- Where the count of parts ends below its bound it is the true one. The document's parse: its first ways. The document's parse at a value that is not compound. The document's parse at a compound value: what holds of its kids so far. The document's parse at a compound value. The document's parse, whatever the bytes; its Parse. Parse's answer in one piece; a row of the call's own, changed. -/
import Derived.Test.YtconbejjagcnkaaGreatDoorPc
namespace Go.Proofs.YtconbejjagcnkaaGreatDoor.ndc
open Go.RowKit Go.Proofs.YtconbejjagcnkaaGreatDoor.tlvc Go.Proofs.YtconbejjagcnkaaGreatDoor.tlvd Go.Proofs.YtconbejjagcnkaaGreatDoor.txc
set_option linter.unusedVariables false
end Go.Proofs.YtconbejjagcnkaaGreatDoor.ndc
namespace Go.Proofs.YtconbejjagcnkaaGreatDoor.ndc
open Go.RowKit Go.Proofs.YtconbejjagcnkaaGreatDoor.tlvc Go.Proofs.YtconbejjagcnkaaGreatDoor.tlvd Go.Proofs.YtconbejjagcnkaaGreatDoor.txc
set_option linter.unusedVariables false
set_option linter.unusedSimpArgs false
/-- How the document's parse ends. -/
def DRPost (w:World)(r:RR)(e:Ending)(w':World):Prop:=
  Below w.heap.size w w'∧match r with
  | .bad a er=>e=.returned (.tuple #[.agg #[.int .u8 0,.slice none 0 0,.slice none 0 0],.int .i64 a,.int .i64 er])
  | .ok n nx=>∃v,e=.returned (.tuple #[v,.int .i64 nx,.int .i64 0])∧NdV (fun g=>w.heap.size≤g) w' n v
/-- A world that goes on from w, with the answer's box still empty. -/
structure Box0 (w wx:World):Prop where
  bel:Below w.heap.size w wx
  res:wx.heap[w.heap.size]? =some (.cells #[.int .u8 0,.slice none 0 0,.slice none 0 0] 40)
theorem Box0.start (w:World):Box0 w (w.alloc (.cells #[.int .u8 0,.slice none 0 0,.slice none 0 0] 40)):=⟨below_new _ _,box_new _ _ _ _ _⟩
theorem Box0.size {w wx:World}(h:Box0 w wx):w.heap.size<wx.heap.size:=(Array.getElem?_eq_some_iff.1 h.res).1
theorem Box0.drewN {w wx:World}(h:Box0 w wx)(q:Nat):Box0 w (wx.drewN q):=⟨⟨h.bel.os,h.bel.tape,h.bel.output,h.bel.size,h.bel.block⟩,h.res⟩
theorem Box0.below {w wx wy:World}(h:Box0 w wx)(hb:Below wx.heap.size wx wy):Box0 w wy:=⟨h.bel.trans (hb.mono h.bel.size),(hb.block _ h.size).trans h.res⟩
theorem Box0.cells {w wx:World}(h:Box0 w wx):wx.cell? ⟨w.heap.size,0,none⟩=some (.int .u8 0)∧wx.cell? ⟨w.heap.size,1,none⟩=some (.slice none 0 0)∧wx.cell? ⟨w.heap.size,2,none⟩=some (.slice none 0 0):=
  ⟨by rw[Lib.cell_of_heap h.res];rfl,by rw[Lib.cell_of_heap h.res];rfl,by rw[Lib.cell_of_heap h.res];rfl⟩
theorem Box0.free {w wx:World}(h:Box0 w wx):wx.frozen? ⟨w.heap.size,0,none⟩=false∧wx.frozen? ⟨w.heap.size,1,none⟩=false∧wx.frozen? ⟨w.heap.size,2,none⟩=false:=
  ⟨Lib.frozen_of_heap h.res _,Lib.frozen_of_heap h.res _,Lib.frozen_of_heap h.res _⟩
/-- The answer laid into its box. -/
theorem Box0.set {w wx:World}(h:Box0 w wx)(c0 c1 c2:Value):
    (((wx.setCell ⟨w.heap.size,0,none⟩ c0).setCell ⟨w.heap.size,1,none⟩ c1).setCell ⟨w.heap.size,2,none⟩ c2).cell? ⟨w.heap.size,0,none⟩=some c0∧
    (((wx.setCell ⟨w.heap.size,0,none⟩ c0).setCell ⟨w.heap.size,1,none⟩ c1).setCell ⟨w.heap.size,2,none⟩ c2).cell? ⟨w.heap.size,1,none⟩=some c1∧
    (((wx.setCell ⟨w.heap.size,0,none⟩ c0).setCell ⟨w.heap.size,1,none⟩ c1).setCell ⟨w.heap.size,2,none⟩ c2).cell? ⟨w.heap.size,2,none⟩=some c2∧
    Below w.heap.size w (((wx.setCell ⟨w.heap.size,0,none⟩ c0).setCell ⟨w.heap.size,1,none⟩ c1).setCell ⟨w.heap.size,2,none⟩ c2):=by
  obtain⟨d0,d1,d2⟩:=h.cells
  obtain⟨r0,r1,r2,hbl,_⟩:=three_set wx w.heap.size w.heap.size _ _ _ c0 c1 c2 (Nat.le_refl _) d0 d1 d2
  exact⟨r0,r1,r2,h.bel.trans hbl⟩
set_option maxRecDepth 100000 in
set_option maxHeartbeats 8000000 in
theorem parse_bad (d outer:Nat)(A:Option Addr)(n c en:Nat)(xs:List Int)(at_:Nat)(w:World)(hx:Bys w A n xs)(hc:n≤c)(hm:c≤maxLen)(hat:at_≤en)(hen:en≤n)(hh:(headF ((xs.take en).drop at_)).1≠0):
    Calls Tryz.prog 57 #[.slice A n c,.int .i64 at_,.int .i64 en,.int .i64 outer] w (DRPost w (readF (d+1) outer (xs.take en) at_)):=by
  have hr:readF (d+1) outer (xs.take en) at_=.bad at_ (headF ((xs.take en).drop at_)).1:=by
    show(if _ then _ else _)=_
    rw[if_pos hh]
  rw[hr]
  have hb0:=Box0.start w
  have hm9:c≤9223372036854775807:=by unfold maxLen at hm;omega
  have hhd:=head_of ref_ways A en c (xs.take en) at_ (w.alloc (.cells #[.int .u8 0,.slice none 0 0,.slice none 0 0] 40)) ((hx.below hb0.bel).upto hen) (by omega) hm
  rw[head_at (by rw[List.length_take,hx.1];omega)] at hhd
  unfold headR at hhd
  rw[if_neg hh] at hhd
  obtain⟨er,her⟩: ∃x,(headF ((xs.take en).drop at_)).1=x:=⟨_,rfl⟩
  rw[her] at hhd hh⊢
  unfold No at hhd
  have HH:=Lib.hid hhd
  have hne:(er==0)=false:=by simpa using hh
  have hez:(0:Int)≤(en:Int):=by omega
  have hec:(en:Int)≤(c:Int):=by omega
  clear hhd her hr hx
  go_enter Tryz.func57,Tryz.ntmps57
  go_wp2_with fail
  refine HH.out.mono ?_
  rintro e w' ⟨rfl,q,rfl⟩
  have hb1:=hb0.drewN q
  obtain⟨W1,hW1⟩: ∃x,(w.alloc (.cells #[.int .u8 0,.slice none 0 0,.slice none 0 0] 40)).drewN q=x:=⟨_,rfl⟩
  rw[hW1] at hb1⊢
  clear hW1 hb0 HH
  obtain⟨d0,d1,d2⟩:=hb1.cells
  obtain⟨g0,g1,g2⟩:=hb1.free
  obtain⟨r0,r1,r2,hbl⟩:=hb1.set (.int .u8 0) (.slice none 0 0) (.slice none 0 0)
  have HE:=Lib.hid hbl
  clear hb1 hbl
  go_wp2
  refine bodyPost_ret (v:=.tuple #[.agg #[.int .u8 0,.slice none 0 0,.slice none 0 0],.int .i64 at_,.int .i64 er]) ?_ rfl ⟨HE.out,rfl⟩
  simp[results,Tryz.results57,go_sem,r0,r1,r2]
set_option maxRecDepth 100000 in
set_option maxHeartbeats 8000000 in
theorem parse_own (d outer:Nat)(A:Option Addr)(n c en:Nat)(xs:List Int)(at_ F T:Nat)(t:Int)(w:World)(hx:Bys w A n xs)(hc:n≤c)(hm:c≤maxLen)(hen:en≤n)(hs:Spot (xs.take en) at_ t F T)(ho:32≤outer∨tagF t≠0):
    Calls Tryz.prog 57 #[.slice A n c,.int .i64 at_,.int .i64 en,.int .i64 outer] w (DRPost w (.bad at_ (if 32≤outer then 41 else tagF t))):=by
  have hb0:=Box0.start w
  have hm9:c≤9223372036854775807:=by unfold maxLen at hm;omega
  have hhd:=head_of ref_ways A en c (xs.take en) at_ (w.alloc (.cells #[.int .u8 0,.slice none 0 0,.slice none 0 0] 40)) ((hx.below hb0.bel).upto hen) (by omega) hm
  rw[head_spot hs] at hhd
  unfold Yes at hhd
  have htg:=fun W=>refTag_any t W hs.tag
  obtain⟨tg,htv⟩: ∃x,tagF t=x:=⟨_,rfl⟩
  rw[htv] at htg ho⊢
  have HH:=Lib.hid hhd
  have HTG:=Lib.hid htg
  have hez:(0:Int)≤(en:Int):=by omega
  have hec:(en:Int)≤(c:Int):=by omega
  clear hhd hx htg htv hs
  by_cases h32:32≤outer
  · have hz:(32:Int)≤(outer:Int):=by omega
    rw[if_pos h32]
    go_enter Tryz.func57,Tryz.ntmps57
    go_wp2_with fail
    refine HH.out.mono ?_
    rintro e w' ⟨rfl,q,rfl⟩
    have hb1:=hb0.drewN q
    obtain⟨W1,hW1⟩: ∃x,(w.alloc (.cells #[.int .u8 0,.slice none 0 0,.slice none 0 0] 40)).drewN q=x:=⟨_,rfl⟩
    rw[hW1] at hb1⊢
    clear hW1 hb0 HH
    obtain⟨d0,d1,d2⟩:=hb1.cells
    obtain⟨g0,g1,g2⟩:=hb1.free
    obtain⟨r0,r1,r2,hbl⟩:=hb1.set (.int .u8 0) (.slice none 0 0) (.slice none 0 0)
    have HE:=Lib.hid hbl
    clear hb1 hbl
    go_wp2
    refine bodyPost_ret (v:=.tuple #[.agg #[.int .u8 0,.slice none 0 0,.slice none 0 0],.int .i64 at_,.int .i64 41]) ?_ rfl ⟨HE.out,rfl⟩
    simp[results,Tryz.results57,go_sem,r0,r1,r2]
  · have hz: ¬(32:Int)≤(outer:Int):=by omega
    have htg0:(tg==0)=false:=by rcases ho with h |h;exact absurd h h32;simpa using h
    rw[if_neg h32]
    go_enter Tryz.func57,Tryz.ntmps57
    go_wp2_with fail
    refine HH.out.mono ?_
    rintro e w' ⟨rfl,q,rfl⟩
    have hb1:=hb0.drewN q
    obtain⟨W1,hW1⟩: ∃x,(w.alloc (.cells #[.int .u8 0,.slice none 0 0,.slice none 0 0] 40)).drewN q=x:=⟨_,rfl⟩
    rw[hW1] at hb1⊢
    clear hW1 hb0 HH
    go_wp2_with fail
    refine(HTG.out _).mono ?_
    rintro e w1 ⟨rfl,rfl⟩
    obtain⟨d0,d1,d2⟩:=hb1.cells
    obtain⟨g0,g1,g2⟩:=hb1.free
    obtain⟨r0,r1,r2,hbl⟩:=hb1.set (.int .u8 0) (.slice none 0 0) (.slice none 0 0)
    have HE:=Lib.hid hbl
    clear hb1 hbl HTG
    go_wp2
    refine bodyPost_ret (v:=.tuple #[.agg #[.int .u8 0,.slice none 0 0,.slice none 0 0],.int .i64 at_,.int .i64 tg]) ?_ rfl ⟨HE.out,rfl⟩
    simp[results,Tryz.results57,go_sem,r0,r1,r2]
end Go.Proofs.YtconbejjagcnkaaGreatDoor.ndc
namespace Go.Proofs.YtconbejjagcnkaaGreatDoor.ndc
open Go.RowKit Go.Proofs.YtconbejjagcnkaaGreatDoor.tlvc Go.Proofs.YtconbejjagcnkaaGreatDoor.tlvd Go.Proofs.YtconbejjagcnkaaGreatDoor.txc
set_option linter.unusedVariables false
set_option linter.unusedSimpArgs false
/-- The answer laid into its box: the node that it is. -/
theorem Box0.fin {w wx:World}(h:Box0 w wx){n:Nd}{c0 c1 c2:Value}(hn:NdC (fun g=>w.heap.size<g) wx n c0 c1 c2):
    NdV (fun g=>w.heap.size≤g) (((wx.setCell ⟨w.heap.size,0,none⟩ c0).setCell ⟨w.heap.size,1,none⟩ c1).setCell ⟨w.heap.size,2,none⟩ c2) n (.agg #[c0,c1,c2]):=by
  obtain⟨d0,d1,d2⟩:=h.cells
  obtain⟨r0,r1,r2,hbl,hk⟩:=three_set wx w.heap.size w.heap.size _ _ _ c0 c1 c2 (Nat.le_refl _) d0 d1 d2
  exact⟨_,_,_,rfl,NdC.mono (fun g hg=>Nat.le_of_lt hg) _ _ _ _ (NdC.stays (w':=((wx.setCell ⟨w.heap.size,0,none⟩ c0).setCell ⟨w.heap.size,1,none⟩ c1).setCell ⟨w.heap.size,2,none⟩ c2) ⟨hbl.size,fun p hp _=>hk p (by have hp:w.heap.size<p.block:=hp;omega)⟩ _ _ _ _ hn)⟩
set_option maxRecDepth 100000 in
set_option maxHeartbeats 16000000 in
theorem parse_plain (outer:Nat)(A:Option Addr)(n c en:Nat)(xs:List Int)(at_ F T:Nat)(t:Int)(w:World)(hx:Bys w A n xs)(hc:n≤c)(hm:c≤maxLen)(hen:en≤n)(hs:Spot (xs.take en) at_ t F T)(hTb:Tabs w)(ho: ¬32≤outer)(ht0:tagF t=0)(hcp:compB t=false):
    Calls Tryz.prog 57 #[.slice A n c,.int .i64 at_,.int .i64 en,.int .i64 outer] w (DRPost w (if bodyB t ((xs.take T).drop F)=true then .ok (.mk t ((xs.take T).drop F) []) T else .bad at_ 43)):=by
  have hb0:=Box0.start w
  have hm9:c≤9223372036854775807:=by unfold maxLen at hm;omega
  have hhd:=head_of ref_ways A en c (xs.take en) at_ (w.alloc (.cells #[.int .u8 0,.slice none 0 0,.slice none 0 0] 40)) ((hx.below hb0.bel).upto hen) (by omega) hm
  rw[head_spot hs] at hhd
  unfold Yes at hhd
  have htg:=fun W=>refTag_any t W hs.tag
  rw[ht0] at htg
  have HH:=Lib.hid hhd
  have HTG:=Lib.hid htg
  have hez:(0:Int)≤(en:Int):=by omega
  have hec:(en:Int)≤(c:Int):=by omega
  have hz: ¬(32:Int)≤(outer:Int):=by omega
  have htag:=hs.tag
  have hbits:=comp_bits htag
  rw[hcp] at hbits
  have hbz:(bits .and .u8 t 32==0)=true:=by cases hx:(bits .and .u8 t 32==0) with |true=>rfl |false=>(rw[bne,hx] at hbits;cases hbits)
  have hlo:=hs.lo
  have hmid:=hs.mid
  have hhi:=hs.hi
  rw[List.length_take,hx.1] at hhi
  have hTn:T≤n:=by omega
  have hfew:=hs.few
  obtain⟨b,off,rfl,hb,_⟩:=hx.2.2 (by omega)
  obtain⟨bd,hbd⟩: ∃x,(xs.take T).drop F=x:=⟨_,rfl⟩
  obtain⟨AF,hAF⟩: ∃x:Nat,(if c=F then off else off+F)=x:=⟨_,rfl⟩
  have hsub:=body_bys hx hc hmid hTn
  rw[hbd,hAF] at hsub
  rw[hbd]
  obtain⟨RES,hRES⟩: ∃x,(if bodyB t bd=true then RR.ok (.mk t bd []) T else .bad at_ 43)=x:=⟨_,rfl⟩
  rw[hRES]
  have HRES:=Lib.hid hRES
  clear hRES
  have i1:(0:Int)≤(F:Int):=by omega
  have i2:(F:Int)≤(T:Int):=by omega
  have i3:(T:Int)≤(c:Int):=by omega
  have HSUB:=Lib.hid hsub
  have HTB:=Lib.hid hTb
  have HBIT:=Lib.hid hbits
  clear hhd htg hs hx hsub hTb hbits
  go_enter Tryz.func57,Tryz.ntmps57
  go_wp2_with fail
  refine HH.out.mono ?_
  rintro e w' ⟨rfl,q,rfl⟩
  have hb1:=hb0.drewN q
  obtain⟨W1,hW1⟩: ∃x,(w.alloc (.cells #[.int .u8 0,.slice none 0 0,.slice none 0 0] 40)).drewN q=x:=⟨_,rfl⟩
  rw[hW1] at hb1⊢
  clear hW1 hb0 HH
  go_wp2_with fail
  refine(HTG.out _).mono ?_
  rintro e w1 ⟨rfl,rfl⟩
  clear HTG
  have hb2:=hb1.below (below_new W1 (.cells #[.int .u8 t,.slice none 0 0,.slice none 0 0] 40))
  obtain⟨W2,hW2⟩: ∃x,W1.alloc (.cells #[.int .u8 t,.slice none 0 0,.slice none 0 0] 40)=x:=⟨_,rfl⟩
  rw[hW2] at hb2
  have hn2:W2.heap[W1.heap.size]? =some (.cells #[.int .u8 t,.slice none 0 0,.slice none 0 0] 40):=by rw[←hW2];exact box_new _ _ _ _ _
  have hz2:W1.heap.size<W2.heap.size:=by rw[←hW2];simp
  have hPn:w.heap.size<W1.heap.size:=hb1.size
  by_cases hcF:c=F
  · obtain rfl:T=F:=by omega
    obtain rfl:n=T:=by omega
    subst hcF
    rw[if_pos rfl] at hAF
    subst hAF
    rw[Nat.sub_self] at HSUB
    clear hbd hfew hhi hmid hTn i2 i3 hc
    obtain⟨v',w4,hrun,hown,hgr,hob⟩:=app_many (W2.alloc (.cells #[] 5)) W2.heap.size (.slice (some ⟨W2.heap.size,0,none⟩) 0 0) 0 [] (World.ownsRow_lit W2 #[] 0 (Nat.le_refl _) (Nat.zero_le _) rfl) (some ⟨b,off,none⟩) 0 0 bd ((HSUB.out.below hb2.bel).alloc _) (by omega) (by simp)
    rw[Nat.zero_add,List.nil_append] at hown
    obtain⟨Ao,co,hv',ho1,ho2,ho3⟩:=own_shape hown
    subst hv'
    have hfit:Fit bd:=HSUB.out.2.1
    have hby4:Bys w4 Ao 0 bd:=Bys.own hown hfit
    have hfar: ∀g sp off,Ao=some ⟨g,off,sp⟩→W2.heap.size≤g:=fun g sp off e=>by
      have:=(hown.lt g (by rw[e];rfl)).1
      exact this
    have b4: ∀g,g<W2.heap.size→w4.heap[g]? =W2.heap[g]? :=fun g hg=>by
      rw[hgr.block g (by simp;omega) (by intro e;have h:g=W2.heap.size:=Option.some.inj e;omega),heap_old_ _ _ hg]
    have hbel4:Below W2.heap.size W2 w4:=⟨hgr.os,hgr.tape,hgr.output,by have:=hgr.size;simp at this;omega,b4⟩
    have hb4:=hb2.below hbel4
    have hn4:=(b4 _ hz2).trans hn2
    obtain⟨w5,hw5⟩: ∃x,w4.setCell ⟨W1.heap.size,1,none⟩ (.slice Ao 0 co)=x:=⟨_,rfl⟩
    have hn5:w5.heap[W1.heap.size]? =some (.cells #[.int .u8 t,.slice Ao 0 co,.slice none 0 0] 40):=by rw[←hw5];exact set_heap _ _ 1 _ _ _ _ hn4
    have hk5: ∀g,g≠W1.heap.size→w5.heap[g]? =w4.heap[g]? :=fun g hg=>by rw[←hw5];exact set_heap_other _ _ _ _ _ hg
    have hz5:w5.heap.size=w4.heap.size:=by rw[←hw5];exact set_size _ _ _
    have hbel5:Below w.heap.size w w5:=by
      have:=hb4.bel.setCell (show w.heap.size≤(⟨W1.heap.size,1,none⟩:Addr).block from Nat.le_of_lt hPn) (.slice Ao 0 co)
      rwa[hw5] at this
    have hb5:Box0 w w5:=⟨hbel5,(hk5 _ (by omega)).trans hb4.res⟩
    have hby5:Bys w5 Ao 0 bd:=bys_stays (B:=fun g=>W2.heap.size≤g) ⟨by rw[hz5];exact Nat.le_refl _,fun p hp _=>cell_same (hk5 _ (by have hp:W2.heap.size≤p.block:=hp;omega))⟩ hby4 (fun _ g off sp e=>hfar g sp off e)
    have hbody:=refBody_any t Ao 0 co bd w5 htag hby5 ho1 ho2 (HTB.out.below hbel5)
    have f4:w4.frozen? ⟨W1.heap.size,1,none⟩=false:=Lib.frozen_of_heap hn4 _
    have m4:w4.cell? ⟨W1.heap.size,1,none⟩=some (.slice none 0 0):=by rw[Lib.cell_of_heap hn4];rfl
    have l5:w5.cell? ⟨W1.heap.size,1,none⟩=some (.slice Ao 0 co):=by rw[Lib.cell_of_heap hn5];rfl
    have hnd5: ∀W,Below w5.heap.size w5 W→NdC (fun g=>w.heap.size<g) W (.mk t bd []) (.int .u8 t) (.slice Ao 0 co) (.slice none 0 0):=fun W hW=>by
      unfold NdC
      exact⟨rfl,htag,⟨Ao,0,co,rfl,ho1,ho2,hby5.below hW,fun _ g off sp e=>by have:=hfar g sp off e;show w.heap.size<g;omega⟩,none,0,rfl,Nat.le_refl _,Nat.zero_le _,fun h=>absurd h (by simp)⟩
    unfold bodyF at hbody
    have hz51:W1.heap.size<w5.heap.size:=(Array.getElem?_eq_some_iff.1 hn5).1
    have HBO:=Lib.hid hbody
    have HND:=Lib.hid hnd5
    have HB5:=Lib.hid hb5
    have HN5:=Lib.hid hn5
    have HW2:=Lib.hid hW2
    have HW5:=Lib.hid hw5
    clear hW2 hw5 hbody hnd5 hb5 hn5 hby5 hby4 hbel5 hk5 hz5 hn4 hb4 hbel4 b4 hfar hfit hown hgr hob hn2 hb2 HSUB ho3
    go_upto_region 11 with (fail)
    rw[HW2.out]
    clear HW2
    go_upto_region 12 with (at_builtin;refine wpl_append rfl (.tmp 52) (.tmp 56) 28 rfl _ _ _ rfl rfl hrun ?_)
    rw[HW5.out]
    clear HW5 hrun f4 m4
    go_wp2_with fail
    refine HBO.out.mono ?_
    rintro e w6 ⟨rfl,hb6⟩
    have hb7:=HB5.out.below hb6
    have hnd:=HND.out w6 hb6
    have hn6:=(hb6.block _ hz51).trans HN5.out
    obtain⟨d0,d1,d2⟩:=hb7.cells
    obtain⟨g0,g1,g2⟩:=hb7.free
    by_cases hbb:bodyB t bd=true
    · have hE:RES=.ok (.mk t bd []) c:=HRES.out.symm.trans (if_pos hbb)
      rw[if_pos hbb]
      have m0:w6.cell? ⟨W1.heap.size,0,none⟩=some (.int .u8 t):=by rw[Lib.cell_of_heap hn6];rfl
      have m1:w6.cell? ⟨W1.heap.size,1,none⟩=some (.slice Ao 0 co):=by rw[Lib.cell_of_heap hn6];rfl
      have m2:w6.cell? ⟨W1.heap.size,2,none⟩=some (.slice none 0 0):=by rw[Lib.cell_of_heap hn6];rfl
      obtain⟨r0,r1,r2,hbl⟩:=hb7.set (.int .u8 t) (.slice Ao 0 co) (.slice none 0 0)
      have HE:=Lib.hid (And.intro hbl (hb7.fin hnd))
      clear hb7 hbl hnd hn6 HBO HND HB5 HN5 HRES hb6 l5
      subst hE
      go_wp2
      refine bodyPost_ret (v:=.tuple #[.agg #[.int .u8 t,.slice Ao 0 co,.slice none 0 0],.int .i64 c,.int .i64 0]) ?_ rfl ⟨HE.out.1,_,rfl,HE.out.2⟩
      simp[results,Tryz.results57,go_sem,r0,r1,r2]
    · have hE:RES=.bad at_ 43:=HRES.out.symm.trans (if_neg hbb)
      rw[if_neg hbb]
      obtain⟨r0,r1,r2,hbl⟩:=hb7.set (.int .u8 0) (.slice none 0 0) (.slice none 0 0)
      have HE:=Lib.hid hbl
      clear hb7 hbl hnd hn6 HBO HND HB5 HN5 HRES hb6 l5
      subst hE
      go_wp2
      refine bodyPost_ret (v:=.tuple #[.agg #[.int .u8 0,.slice none 0 0,.slice none 0 0],.int .i64 at_,.int .i64 43]) ?_ rfl ⟨HE.out,rfl⟩
      simp[results,Tryz.results57,go_sem,r0,r1,r2]
  · rw[if_neg hcF] at hAF
    subst hAF
    have hcz: ¬c - F=0:=by omega
    obtain⟨v',w4,hrun,hown,hgr,hob⟩:=app_many (W2.alloc (.cells #[] 5)) W2.heap.size (.slice (some ⟨W2.heap.size,0,none⟩) 0 0) 0 [] (World.ownsRow_lit W2 #[] 0 (Nat.le_refl _) (Nat.zero_le _) rfl) (some ⟨b,(off+F),none⟩) (T - F) (c - F) bd ((HSUB.out.below hb2.bel).alloc _) (by omega) (by simp)
    rw[Nat.zero_add,List.nil_append] at hown
    obtain⟨Ao,co,hv',ho1,ho2,ho3⟩:=own_shape hown
    subst hv'
    have hfit:Fit bd:=HSUB.out.2.1
    have hby4:Bys w4 Ao (T - F) bd:=Bys.own hown hfit
    have hfar: ∀g sp off,Ao=some ⟨g,off,sp⟩→W2.heap.size≤g:=fun g sp off e=>by
      have:=(hown.lt g (by rw[e];rfl)).1
      exact this
    have b4: ∀g,g<W2.heap.size→w4.heap[g]? =W2.heap[g]? :=fun g hg=>by
      rw[hgr.block g (by simp;omega) (by intro e;have h:g=W2.heap.size:=Option.some.inj e;omega),heap_old_ _ _ hg]
    have hbel4:Below W2.heap.size W2 w4:=⟨hgr.os,hgr.tape,hgr.output,by have:=hgr.size;simp at this;omega,b4⟩
    have hb4:=hb2.below hbel4
    have hn4:=(b4 _ hz2).trans hn2
    obtain⟨w5,hw5⟩: ∃x,w4.setCell ⟨W1.heap.size,1,none⟩ (.slice Ao (T - F) co)=x:=⟨_,rfl⟩
    have hn5:w5.heap[W1.heap.size]? =some (.cells #[.int .u8 t,.slice Ao (T - F) co,.slice none 0 0] 40):=by rw[←hw5];exact set_heap _ _ 1 _ _ _ _ hn4
    have hk5: ∀g,g≠W1.heap.size→w5.heap[g]? =w4.heap[g]? :=fun g hg=>by rw[←hw5];exact set_heap_other _ _ _ _ _ hg
    have hz5:w5.heap.size=w4.heap.size:=by rw[←hw5];exact set_size _ _ _
    have hbel5:Below w.heap.size w w5:=by
      have:=hb4.bel.setCell (show w.heap.size≤(⟨W1.heap.size,1,none⟩:Addr).block from Nat.le_of_lt hPn) (.slice Ao (T - F) co)
      rwa[hw5] at this
    have hb5:Box0 w w5:=⟨hbel5,(hk5 _ (by omega)).trans hb4.res⟩
    have hby5:Bys w5 Ao (T - F) bd:=bys_stays (B:=fun g=>W2.heap.size≤g) ⟨by rw[hz5];exact Nat.le_refl _,fun p hp _=>cell_same (hk5 _ (by have hp:W2.heap.size≤p.block:=hp;omega))⟩ hby4 (fun _ g off sp e=>hfar g sp off e)
    have hbody:=refBody_any t Ao (T - F) co bd w5 htag hby5 ho1 ho2 (HTB.out.below hbel5)
    have f4:w4.frozen? ⟨W1.heap.size,1,none⟩=false:=Lib.frozen_of_heap hn4 _
    have m4:w4.cell? ⟨W1.heap.size,1,none⟩=some (.slice none 0 0):=by rw[Lib.cell_of_heap hn4];rfl
    have l5:w5.cell? ⟨W1.heap.size,1,none⟩=some (.slice Ao (T - F) co):=by rw[Lib.cell_of_heap hn5];rfl
    have hnd5: ∀W,Below w5.heap.size w5 W→NdC (fun g=>w.heap.size<g) W (.mk t bd []) (.int .u8 t) (.slice Ao (T - F) co) (.slice none 0 0):=fun W hW=>by
      unfold NdC
      exact⟨rfl,htag,⟨Ao,(T - F),co,rfl,ho1,ho2,hby5.below hW,fun _ g off sp e=>by have:=hfar g sp off e;show w.heap.size<g;omega⟩,none,0,rfl,Nat.le_refl _,Nat.zero_le _,fun h=>absurd h (by simp)⟩
    unfold bodyF at hbody
    have hz51:W1.heap.size<w5.heap.size:=(Array.getElem?_eq_some_iff.1 hn5).1
    have HBO:=Lib.hid hbody
    have HND:=Lib.hid hnd5
    have HB5:=Lib.hid hb5
    have HN5:=Lib.hid hn5
    have HW2:=Lib.hid hW2
    have HW5:=Lib.hid hw5
    clear hW2 hw5 hbody hnd5 hb5 hn5 hby5 hby4 hbel5 hk5 hz5 hn4 hb4 hbel4 b4 hfar hfit hown hgr hob hn2 hb2 HSUB ho3
    go_upto_region 11 with (fail)
    rw[HW2.out]
    clear HW2
    go_upto_region 12 with (at_builtin;refine wpl_append rfl (.tmp 52) (.tmp 56) 28 rfl _ _ _ rfl rfl hrun ?_)
    rw[HW5.out]
    clear HW5 hrun f4 m4
    go_wp2_with fail
    refine HBO.out.mono ?_
    rintro e w6 ⟨rfl,hb6⟩
    have hb7:=HB5.out.below hb6
    have hnd:=HND.out w6 hb6
    have hn6:=(hb6.block _ hz51).trans HN5.out
    obtain⟨d0,d1,d2⟩:=hb7.cells
    obtain⟨g0,g1,g2⟩:=hb7.free
    by_cases hbb:bodyB t bd=true
    · have hE:RES=.ok (.mk t bd []) T:=HRES.out.symm.trans (if_pos hbb)
      rw[if_pos hbb]
      have m0:w6.cell? ⟨W1.heap.size,0,none⟩=some (.int .u8 t):=by rw[Lib.cell_of_heap hn6];rfl
      have m1:w6.cell? ⟨W1.heap.size,1,none⟩=some (.slice Ao (T - F) co):=by rw[Lib.cell_of_heap hn6];rfl
      have m2:w6.cell? ⟨W1.heap.size,2,none⟩=some (.slice none 0 0):=by rw[Lib.cell_of_heap hn6];rfl
      obtain⟨r0,r1,r2,hbl⟩:=hb7.set (.int .u8 t) (.slice Ao (T - F) co) (.slice none 0 0)
      have HE:=Lib.hid (And.intro hbl (hb7.fin hnd))
      clear hb7 hbl hnd hn6 HBO HND HB5 HN5 HRES hb6 l5
      subst hE
      go_wp2
      refine bodyPost_ret (v:=.tuple #[.agg #[.int .u8 t,.slice Ao (T - F) co,.slice none 0 0],.int .i64 T,.int .i64 0]) ?_ rfl ⟨HE.out.1,_,rfl,HE.out.2⟩
      simp[results,Tryz.results57,go_sem,r0,r1,r2]
    · have hE:RES=.bad at_ 43:=HRES.out.symm.trans (if_neg hbb)
      rw[if_neg hbb]
      obtain⟨r0,r1,r2,hbl⟩:=hb7.set (.int .u8 0) (.slice none 0 0) (.slice none 0 0)
      have HE:=Lib.hid hbl
      clear hb7 hbl hnd hn6 HBO HND HB5 HN5 HRES hb6 l5
      subst hE
      go_wp2
      refine bodyPost_ret (v:=.tuple #[.agg #[.int .u8 0,.slice none 0 0,.slice none 0 0],.int .i64 at_,.int .i64 43]) ?_ rfl ⟨HE.out,rfl⟩
      simp[results,Tryz.results57,go_sem,r0,r1,r2]
end Go.Proofs.YtconbejjagcnkaaGreatDoor.ndc
namespace Go.Proofs.YtconbejjagcnkaaGreatDoor.ndc
open Go.RowKit Go.Proofs.YtconbejjagcnkaaGreatDoor.tlvc Go.Proofs.YtconbejjagcnkaaGreatDoor.tlvd Go.Proofs.YtconbejjagcnkaaGreatDoor.txc
set_option linter.unusedVariables false
set_option linter.unusedSimpArgs false
/-- Kids and their bytes, as the program counts them. -/
def rkOf (ks:List Nd)(bs:List (List Int)):RK:=⟨ks,bs.getLastD [], !risingB bs⟩
theorem rising_snoc: ∀(bs:List (List Int)) (b:List Int),risingB (bs++[b])=(risingB bs && !behind (bs.getLastD []) b)
  | [],b=>by show risingB [b]=_;simp[risingB,behind_nil]
  | [a],b=>by show risingB [a,b]=_;rw[rising_two];simp[risingB]
  |a::c::r,b=>by
   have ih:=rising_snoc (c::r) b
   show risingB (a::c::(r++[b]))=_
   rw[rising_two,rising_two]
   have e:risingB (c::(r++[b]))=risingB ((c::r)++[b]):=rfl
   rw[e,ih]
   have e2:(a::c::r).getLastD []=(c::r).getLastD []:=by simp[List.getLastD]
   rw[e2,Bool.and_assoc]
theorem rk_add (ks:List Nd)(bs:List (List Int))(n:Nd)(b:List Int):(rkOf ks bs).add n b=rkOf (ks++[n]) (bs++[b]):=by
  unfold rkOf RK.add
  simp only
  rw[rising_snoc]
  congr 1
  · simp
  · cases risingB bs<;>simp
/-- The blocks that kids may lie in. -/
def Fre (w:World)(nb n:Nat)(o1 o2:Option Nat)(g:Nat):Prop:=w.heap.size<g∧g<n∧g≠nb∧some g≠o1∧some g≠o2
structure DInv (w:World) (nb base:Nat) (t:Int) (ks:List Nd) (bs:List (List Int)) (vs:List Value) (v7 v:Value) (cs:List Value) (wx:World):Prop where
  box:Box0 w wx
  low:base≤wx.heap.size
  row:wx.ownsRow base 28 1 v7 bs.length vs
  each: ∀j,j<bs.length→∃A n c,vs[j]? =some (.slice A n c)∧Bys w A n (bs.getD j [])∧n≤c∧c≤maxLen
  node:wx.heap[nb]? =some (.cells #[.int .u8 t,.slice none 0 0,v] 40)
  kids:wx.ownsRow base 40 3 v ks.length cs
  trips:Trips (Fre w nb wx.heap.size v.ownBlock v7.ownBlock) wx ks cs
  ne:v.ownBlock=none∨v.ownBlock≠v7.ownBlock
theorem own3_lt {w:World}{base size:Nat}{e:TypeId}{v:Value}{n:Nat}{xs:List Value}(h:w.ownsRow base e size v n xs){g:Nat}(hg:v.ownBlock=some g):base≤g∧g<w.heap.size:=h.lt g hg
theorem own_set {w:World}{base size:Nat}{e:TypeId}{v:Value}{n:Nat}{xs:List Value}(h:w.ownsRow base e size v n xs){nb i:Nat}(hn:nb<base)(u:Value):(w.setCell ⟨nb,i,none⟩ u).ownsRow base e size v n xs:=by
  refine⟨h.1,?_⟩
  rcases h.2 with hh | ⟨g,cap,cur,e,hbg,hg,r⟩
  · exact .inl hh
  · exact .inr ⟨g,cap,cur,e,hbg,(set_heap_other _ _ _ _ _ (by omega)).trans hg,r⟩
/-- Up to the list's own append. -/
theorem DInv.mid {w wx w1 w3 w4:World}{nb base:Nat}{t:Int}{ks:List Nd}{bs:List (List Int)}{vs cs:List Value}{v7 v:Value}(h:DInv w nb base t ks bs vs v7 v cs wx)(hnb:nb<base)(hb1:Below wx.heap.size wx w1)(hb3:Below w1.heap.size w1 w3)(hgr:w3.grownBy w4 v.ownBlock)(v':Value)(o:Obj):
    ((w4.setCell ⟨nb,2,none⟩ v').alloc o).ownsRow base 28 1 v7 bs.length vs:=by
  have r1:=own_below (own_below h.row hb1) hb3
  have r4:=r1.kept hgr (by
    rcases h.ne with e |e
    · cases h7:v7.ownBlock with
      |none=>exact .inl rfl
      |some g=>exact .inr (by rw[e];simp)
    · exact .inr (fun k=>e k.symm))
  exact(own_set r4 hnb v').alloc o
theorem DInv.node4 {w wx w1 w3 w4:World}{nb base:Nat}{t:Int}{ks:List Nd}{bs:List (List Int)}{vs cs:List Value}{v7 v:Value}(h:DInv w nb base t ks bs vs v7 v cs wx)(hnb:nb<base)(hb1:Below wx.heap.size wx w1)(hb3:Below w1.heap.size w1 w3)(hgr:w3.grownBy w4 v.ownBlock):
    w4.heap[nb]? =some (.cells #[.int .u8 t,.slice none 0 0,v] 40):=by
  have hlow:=h.low
  have z1:=hb1.size
  have z3:=hb3.size
  rw[hgr.block nb (by omega) (fun e=>by have:=(own3_lt h.kids e.symm).1;omega),hb3.block nb (by omega),hb1.block nb (by omega)]
  exact h.node
theorem DInv.step {w wx w1 w3 w4 w7:World}{nb base:Nat}{t:Int}{ks:List Nd}{bs:List (List Int)}{vs cs:List Value}{v7 v v' v7':Value}(h:DInv w nb base t ks bs vs v7 v cs wx)(hwn:w.heap.size<nb)(hnb:nb<base)
    (hb1:Below wx.heap.size wx w1) {n:Nd} {c0 c1 c2:Value} (hn:NdC (fun g=>wx.heap.size≤g) w1 n c0 c1 c2) (hb3:Below w1.heap.size w1 w3)
    (hown':w4.ownsRow base 40 3 v' (ks.length+1) (cs++[c0,c1,c2])) (hgr:w3.grownBy w4 v.ownBlock) (hob:v'.ownBlock=v.ownBlock∨ ∃g',v'.ownBlock=some g'∧w3.heap.size≤g')
    {A:Option Addr} {m c:Nat} {b:List Int} (hA:Bys w A m b) (hmc:m≤c∧c≤maxLen)
    (hrow':w7.ownsRow base 28 1 v7' (bs.length+1) (vs++[.slice A m c])) (g7:((w4.setCell ⟨nb,2,none⟩ v').alloc (.cells #[.slice A m c] 28)).grownBy w7 v7.ownBlock)
    (b7:v7'.ownBlock=v7.ownBlock∨ ∃g',v7'.ownBlock=some g'∧((w4.setCell ⟨nb,2,none⟩ v').alloc (.cells #[.slice A m c] 28)).heap.size≤g'):
    DInv w nb base t (ks++[n]) (bs++[b]) (vs++[.slice A m c]) v7' v' (cs++[c0,c1,c2]) w7:=by
  have hlow:=h.low
  have z1:=hb1.size
  have z3:=hb3.size
  have z4:=hgr.size
  have hz6:((w4.setCell ⟨nb,2,none⟩ v').alloc (.cells #[.slice A m c] 28)).heap.size=w4.heap.size+1:=by simp[set_size]
  have z7:=g7.size
  rw[hz6] at z7 b7
  have l1: ∀g,v.ownBlock=some g→base≤g∧g<wx.heap.size:=fun g hg=>own3_lt h.kids hg
  have l7: ∀g,v7.ownBlock=some g→base≤g∧g<wx.heap.size:=fun g hg=>own3_lt h.row hg
  have hw0:=h.box.size
  have k7: ∀g,g<w4.heap.size→g≠nb→some g≠v7.ownBlock→w7.heap[g]? =w4.heap[g]? :=fun g hg hn7 ho=>by
    rw[g7.block g (by rw[hz6];omega) ho,heap_old_ _ _ (by rw[set_size];exact hg),set_heap_other _ _ _ _ _ hn7]
  have stay: ∀g,g<wx.heap.size→g≠nb→some g≠v.ownBlock→some g≠v7.ownBlock→w7.heap[g]? =wx.heap[g]? :=fun g hg hn7 ho1 ho7=>by
    rw[k7 g (by omega) hn7 ho7,hgr.block g (by omega) ho1,hb3.block g (by omega),hb1.block g hg]
  have fresh: ∀g,wx.heap.size≤g→g<w1.heap.size→w7.heap[g]? =w1.heap[g]? :=fun g h1 h2=>by
    rw[k7 g (by omega) (by omega) (fun e=>by have:=(l7 g e.symm).2;omega),hgr.block g (by omega) (fun e=>by have:=(l1 g e.symm).2;omega),hb3.block g h2]
  have n4:=h.node4 hnb hb1 hb3 hgr
  have hne':v'.ownBlock=none∨v'.ownBlock≠v7'.ownBlock:=by
    rcases hob with k | ⟨g',k,hg'⟩
    · rcases h.ne with e |e
      · exact .inl (k.trans e)
      · rcases b7 with k8 | ⟨g8,k8,hg8⟩
        · exact .inr (by rw[k,k8];exact e)
        · right;rw[k,k8];intro e2;have:=(l1 _ e2).2;omega
    · right
      rw[k]
      intro e2
      rcases b7 with k8 | ⟨g8,k8,hg8⟩
      · rw[k8] at e2;have:=(l7 _ e2.symm).2;omega
      · rw[k8] at e2;cases e2
        have:=(own3_lt hown' k).2
        omega
  have new1: ∀g,some g≠v.ownBlock→g<w3.heap.size→some g≠v'.ownBlock:=fun g hn hl e=>by
    rcases hob with k | ⟨g',k,hg'⟩
    · rw[k] at e;exact hn e
    · rw[k] at e;cases e;omega
  have new7: ∀g,some g≠v7.ownBlock→g<w3.heap.size→some g≠v7'.ownBlock:=fun g hn hl e=>by
    rcases b7 with k | ⟨g',k,hg'⟩
    · rw[k] at e;exact hn e
    · rw[k] at e;cases e;omega
  have hkids:w7.ownsRow base 40 3 v' (ks.length+1) (cs++[c0,c1,c2]):=by
    refine((own_set hown' hnb v').alloc _).kept g7 ?_
    rcases hob with k | ⟨g',k,hg'⟩
    · rcases h.ne with e |e
      · exact .inl (k.trans e)
      · exact .inr (by rw[k];exact e)
    · refine .inr ?_
      rw[k]
      intro e2
      have:=(l7 _ e2.symm).2;omega
  have hst:Stays (Fre w nb wx.heap.size v.ownBlock v7.ownBlock) wx w7:=⟨by omega,fun p hp hl=>cell_same (stay p.block hl hp.2.2.1 hp.2.2.2.1 hp.2.2.2.2)⟩
  have hst1:Stays (fun g=>wx.heap.size≤g) w1 w7:=⟨by omega,fun p hp hl=>cell_same (fresh p.block hp hl)⟩
  refine⟨⟨⟨?_,?_,?_,by have:=h.box.bel.size;omega,fun g hg=>?_⟩,?_⟩,by omega,by rw[List.length_append];exact hrow',fun j hj=>?_,?_,by rw[List.length_append];exact hkids,?_,hne'⟩
  · rw[g7.os];show w4.os=_;rw[hgr.os,hb3.os,hb1.os];exact h.box.bel.os
  · rw[g7.tape];show w4.tape=_;rw[hgr.tape,hb3.tape,hb1.tape];exact h.box.bel.tape
  · rw[g7.output];show w4.output=_;rw[hgr.output,hb3.output,hb1.output];exact h.box.bel.output
  · rw[stay g (by omega) (by omega) (fun e=>by have:=(l1 g e.symm).1;omega) (fun e=>by have:=(l7 g e.symm).1;omega)]
    exact h.box.bel.block g hg
  · rw[stay w.heap.size hw0 (by omega) (fun e=>by have:=(l1 _ e.symm).1;omega) (fun e=>by have:=(l7 _ e.symm).1;omega)]
    exact h.box.res
  · rw[List.length_append] at hj
    have hvl:vs.length=bs.length:=by have:=h.row.1;omega
    by_cases hlt:j<bs.length
    · obtain⟨A',n',c',e1,e2,e3⟩:=h.each j hlt
      have hg:(bs++[b]).getD j []=bs.getD j []:=by simp[List.getD_eq_getElem?_getD,List.getElem?_append_left hlt]
      exact⟨A',n',c',by rw[List.getElem?_append_left (by omega)];exact e1,by rw[hg];exact e2,e3⟩
    · obtain rfl:j=bs.length:=by simp at hj;omega
      have hg:(bs++[b]).getD bs.length []=b:=by simp[List.getD_eq_getElem?_getD]
      exact⟨A,m,c,by rw[List.getElem?_append_right (by omega),hvl,Nat.sub_self];rfl,by rw[hg];exact hA,hmc⟩
  · have hz5:nb< (w4.setCell ⟨nb,2,none⟩ v').heap.size:=by rw[set_size];omega
    rw[g7.block nb (by rw[hz6];omega) (fun e=>by have:=(l7 nb e.symm).1;omega),heap_old_ _ _ hz5]
    exact set_heap _ _ 2 _ _ _ _ n4
  · have told:=(h.trips.stays hst).mono (S':=Fre w nb w7.heap.size v'.ownBlock v7'.ownBlock) fun g ⟨h1,h2,h3,h4,h5⟩=>⟨h1,by omega,h3,new1 g h4 (by omega),new7 g h5 (by omega)⟩
    exact told.snoc (NdC.below2 hst1 hn (fun g h1 h2=>⟨by omega,by omega,by omega,new1 g (fun e=>by have:=(l1 g e.symm).2;omega) (by omega),new7 g (fun e=>by have:=(l7 g e.symm).2;omega) (by omega)⟩))
theorem DInv.drewN {w wx:World}{nb base:Nat}{t:Int}{ks:List Nd}{bs:List (List Int)}{vs cs:List Value}{v7 v:Value}(h:DInv w nb base t ks bs vs v7 v cs wx)(q:Nat):DInv w nb base t ks bs vs v7 v cs (wx.drewN q):=
  ⟨h.box.drewN q,h.low,h.row,h.each,h.node,h.kids,h.trips.stays (show Stays (Fre w nb wx.heap.size v.ownBlock v7.ownBlock) wx (wx.drewN q) from⟨Nat.le_refl wx.heap.size,fun p _ _=>rfl⟩),h.ne⟩
theorem DInv.below {w wx wy:World}{nb base:Nat}{t:Int}{ks:List Nd}{bs:List (List Int)}{vs cs:List Value}{v7 v:Value}(h:DInv w nb base t ks bs vs v7 v cs wx)(hb:Below wx.heap.size wx wy)(hnl:nb<wx.heap.size):DInv w nb base t ks bs vs v7 v cs wy:=
  ⟨h.box.below hb,Nat.le_trans h.low hb.size,own_below h.row hb,h.each,(hb.block nb hnl).trans h.node,own_below h.kids hb,(h.trips.stays (stays_below hb _)).mono fun g ⟨h1,h2,h3,h4,h5⟩=>⟨h1,Nat.lt_of_lt_of_le h2 hb.size,h3,h4,h5⟩,h.ne⟩
/-- The list reads as what it holds. -/
theorem DInv.reads {w wx:World}{nb base:Nat}{t:Int}{ks:List Nd}{bs:List (List Int)}{vs cs:List Value}{v7 v:Value}(h:DInv w nb base t ks bs vs v7 v cs wx): ∃L c,v7=.slice L bs.length c∧bs.length≤c∧c≤maxLen∧Bss wx L bs.length bs:=by
  have hv1:=h.row
  obtain⟨L,c,e,h1,h2,h3⟩:=own_shape hv1
  refine⟨L,c,e,h1,h2,rfl,fun hn=>?_⟩
  obtain⟨g,hL,hg1,hg2⟩:=h3 0 hn
  subst hL
  refine⟨g,0,rfl,hg2,fun j hj=>?_⟩
  obtain⟨A,n,c',e1,e2,e3,e4⟩:=h.each j hj
  subst e
  exact⟨A,n,c',by rw[Nat.zero_add,hv1.cellAt j (by omega)];exact e1,e2.below h.box.bel,e3,e4⟩
/-- The node with its kids. -/
theorem DInv.nd {w wx:World}{nb base:Nat}{t:Int}{ks:List Nd}{bs:List (List Int)}{vs cs:List Value}{v7 v:Value}(h:DInv w nb base t ks bs vs v7 v cs wx)(htag:0≤t∧t≤255)(hwn:w.heap.size<nb)(hnb:nb<base):NdC (fun g=>w.heap.size<g) wx (.mk t [] ks) (.int .u8 t) (.slice none 0 0) v:=by
  have ht2:=h.trips.mono (S':=fun g=>w.heap.size<g) fun g hg=>hg.1
  unfold NdC
  refine⟨rfl,htag,⟨none,0,0,rfl,Nat.le_refl _,Nat.zero_le _,Bys.nil_ _ _,fun h=>absurd h (by omega)⟩,?_⟩
  have hown:=h.kids
  rcases hown.2 with ⟨rfl,hn⟩ | ⟨g,cap,cur,hve,hbg,hg,hnc,hcm,hcs,htake⟩
  · exact⟨none,0,by rw[hn],by omega,Nat.zero_le _,fun h=>absurd h (by omega)⟩
  · subst hve
    refine⟨some ⟨g,0,none⟩,cap,rfl,hnc,hcm,fun _=>⟨g,0,rfl,(Array.getElem?_eq_some_iff.1 hg).1,by omega,Trips.kids ht2 fun j u hu=>?_⟩⟩
    have:=hown.cells (g:=g) rfl j u hu
    rwa[Addr.add_lit] at this
end Go.Proofs.YtconbejjagcnkaaGreatDoor.ndc
namespace Go.Proofs.YtconbejjagcnkaaGreatDoor.ndc
open Go.RowKit Go.Proofs.YtconbejjagcnkaaGreatDoor.tlvc Go.Proofs.YtconbejjagcnkaaGreatDoor.tlvd Go.Proofs.YtconbejjagcnkaaGreatDoor.txc
set_option linter.unusedVariables false
set_option linter.unusedSimpArgs false
/-- The contract of the document's parse, for values of this depth. -/
def Parses (d outer:Nat):Prop:=∀(A:Option Addr) (n c en:Nat) (xs:List Int) (at_:Nat) (w:World),Bys w A n xs→n≤c→c≤maxLen→en≤n→at_≤en→Tabs w→
    Calls Tryz.prog 57 #[.slice A n c,.int .i64 at_,.int .i64 en,.int .i64 outer] w (DRPost w (readF d outer (xs.take en) at_))
theorem DInv.start {w W1:World}(h:Box0 w W1)(t:Int):DInv w W1.heap.size (W1.heap.size+1) t [] [] [] (.slice none 0 0) (.slice none 0 0) [] (W1.alloc (.cells #[.int .u8 t,.slice none 0 0,.slice none 0 0] 40)):=
  ⟨h.below (below_new _ _),by simp,World.ownsRow_nil _ _ _ _,fun j hj=>absurd hj (by simp),box_new _ _ _ _ _,World.ownsRow_nil _ _ _ _,rfl,.inl rfl⟩
set_option maxRecDepth 100000 in
set_option maxHeartbeats 16000000 in
theorem parse_comp (d outer:Nat)(IH:Parses (d+1) (outer+1))(hdo:d+ (outer+1)=32)(A:Option Addr)(n c en:Nat)(xs:List Int)(at_ F T:Nat)(t:Int)(w:World)(hx:Bys w A n xs)(hc:n≤c)(hm:c≤maxLen)(hen:en≤n)(hs:Spot (xs.take en) at_ t F T)(hTb:Tabs w)(ht0:tagF t=0)(hcp:compB t=true):
    Calls Tryz.prog 57 #[.slice A n c,.int .i64 at_,.int .i64 en,.int .i64 outer] w (DRPost w (kidsF (readF (d+1) (outer+1) (xs.take T)) (xs.take T) F T t at_)):=by
  have hb0:=Box0.start w
  have hm9:c≤9223372036854775807:=by unfold maxLen at hm;omega
  have hhd:=head_of ref_ways A en c (xs.take en) at_ (w.alloc (.cells #[.int .u8 0,.slice none 0 0,.slice none 0 0] 40)) ((hx.below hb0.bel).upto hen) (by omega) hm
  rw[head_spot hs] at hhd
  unfold Yes at hhd
  have htg:=fun W=>refTag_any t W hs.tag
  rw[ht0] at htg
  have HH:=Lib.hid hhd
  have HTG:=Lib.hid htg
  have hez:(0:Int)≤(en:Int):=by omega
  have hec:(en:Int)≤(c:Int):=by omega
  have hz: ¬(32:Int)≤(outer:Int):=by omega
  have htag:=hs.tag
  have hbits:=comp_bits htag
  rw[hcp] at hbits
  have hbz:(bits .and .u8 t 32==0)=false:=by cases hx:(bits .and .u8 t 32==0) with |false=>rfl |true=>(rw[bne,hx] at hbits;cases hbits)
  have hlo:=hs.lo
  have hmid:=hs.mid
  have hhi:=hs.hi
  rw[List.length_take,hx.1] at hhi
  have hTn:T≤n:=by omega
  have hfew:=hs.few
  obtain⟨b,off,rfl,hb,_⟩:=hx.2.2 (by omega)
  have hup:=hx.upto (k:=T) hTn
  obtain⟨ys,hys⟩: ∃x,xs.take T=x:=⟨_,rfl⟩
  rw[hys] at hup⊢
  have hyl:ys.length=T:=hup.1
  obtain⟨R0,hR0⟩: ∃x,readL (readF (d+1) (outer+1) ys) ys (T - F) F rk0=x:=⟨_,rfl⟩
  unfold kidsF
  rw[hR0]
  obtain⟨RES,hRES⟩: ∃x,resF R0 T t at_=x:=⟨_,rfl⟩
  rw[hRES]
  have hcall:=fun(W:World) (next:Nat) (hW:Below w.heap.size w W) (hn:next≤T)=>IH (some ⟨b,off,none⟩) n c T xs next W (hx.below hW) hc hm hTn hn (hTb.below hW)
  rw[hys] at hcall
  have hwd:IntKind.i64.wrap ((outer:Int)+1)=((outer+1:Nat):Int):=by rw[IntWalk.i64_in _ (by omega)];omega
  have mixed:Tryz.prog.follows Departure.mixedOrders=true:=by kernel_rfl
  have HRES:=Lib.hid hRES
  have HR:=Lib.hid hR0
  have HU:=Lib.hid hup
  have HC:=Lib.hid hcall
  have HX:=Lib.hid hx
  clear hhd htg hs hx hTb hbits hRES hR0 hup hcall IH hys
  go_enter Tryz.func57,Tryz.ntmps57
  go_wp2_with fail
  refine HH.out.mono ?_
  rintro e w' ⟨rfl,q,rfl⟩
  have hb1:=hb0.drewN q
  obtain⟨W1,hW1⟩: ∃x,(w.alloc (.cells #[.int .u8 0,.slice none 0 0,.slice none 0 0] 40)).drewN q=x:=⟨_,rfl⟩
  rw[hW1] at hb1⊢
  clear hW1 hb0 HH
  go_wp2_with fail
  refine(HTG.out _).mono ?_
  rintro e w1 ⟨rfl,rfl⟩
  clear HTG
  have hst:=DInv.start hb1 t
  obtain⟨W2,hW2⟩: ∃x,W1.alloc (.cells #[.int .u8 t,.slice none 0 0,.slice none 0 0] 40)=x:=⟨_,rfl⟩
  rw[hW2] at hst
  have hPn:w.heap.size<W1.heap.size:=hb1.size
  obtain⟨nb,hnb⟩: ∃x,W1.heap.size=x:=⟨_,rfl⟩
  have HW2:=Lib.hid hW2
  have HNB:=Lib.hid hnb
  rw[hnb] at hst hPn
  have HS:=Lib.hid hst
  clear hW2 hnb hst hb1
  go_wp2_with fail
  rw[HW2.out,HNB.out]
  clear HW2 HNB
  go_loopg [16,17] (T+1) (fun gk s16 s17 wx=>∃(next f:Nat) (ks:List Nd) (bs:List (List Int)) (vs:List Value) (v7 v:Value) (cs:List Value),v7=s16∧s17=.int .i64 next∧F≤next∧next≤T∧T - next≤f∧T - next<gk∧ks.length+F≤next∧bs.length=ks.length∧Hid (readL (readF (d+1) (outer+1) ys) ys f next (rkOf ks bs)=R0)∧Hid (DInv w nb (nb+1) t ks bs vs v7 v cs wx))
  case atStart=>exact⟨F,T - F,[],[],[],_,_,[],rfl,rfl,by omega,by omega,by omega,by omega,by simp,rfl,HR,HS⟩
  case round=>
    obtain⟨next,f,ks,bs,vs,v7,v,cs,rfl,rfl,hn1,hn2,hf,hgk,hkl,hbl,hq,hI⟩:=hrel
    clear HR HS
    by_cases hlt:next<T
    · have hltz:(next:Int)< (T:Int):=by omega
      obtain⟨gk',rfl⟩: ∃g',gk=g'+1:=⟨gk - 1,by omega⟩
      obtain⟨f',rfl⟩: ∃f',f=f'+1:=⟨f - 1,by omega⟩
      have hrd:=HC.out wr next hI.out.box.bel hn2
      obtain⟨RR,hRR⟩: ∃x,readF (d+1) (outer+1) ys next=x:=⟨_,rfl⟩
      rw[hRR] at hrd
      have HRD:=Lib.hid hrd
      have HRR:=Lib.hid hRR
      clear hrd hRR
      go_wp2_with fail
      refine HRD.out.mono ?_
      rintro e w2 ⟨hb2,hpost⟩
      clear HRD
      cases RR with
      |bad a er=>
       simp only at hpost
       subst hpost
       have her:er≠0:=(readF_place d (outer+1) ys next a er hdo HU.out.2.1 (by omega) HRR.out).2
       have herb:(er==0)=false:=by simpa using her
       have hR:R0=.bad a er:=hq.out.symm.trans (readL_bad (by omega) HRR.out)
       subst hR
       have hE:RES=.bad a er:=HRES.out.symm
       subst hE
       have hb3:=(hI.out.box.below hb2).below (below_new w2 (.cells #[.int .u8 0,.slice none 0 0,.slice none 0 0] 40))
       obtain⟨d0,d1,d2⟩:=hb3.cells
       obtain⟨g0,g1,g2⟩:=hb3.free
       obtain⟨r0,r1,r2,hbl⟩:=hb3.set (.int .u8 0) (.slice none 0 0) (.slice none 0 0)
       have HE:=Lib.hid hbl
       clear hb3 hbl hb2 hI hq HRES HRR HC
       go_wp2
       refine bodyPost_ret (v:=.tuple #[.agg #[.int .u8 0,.slice none 0 0,.slice none 0 0],.int .i64 a,.int .i64 er]) ?_ rfl ⟨HE.out,rfl⟩
       simp[results,Tryz.results57,go_sem,r0,r1,r2]
      |ok nd nx=>
       obtain⟨vv,rfl,c0,c1,c2,rfl,hnd⟩:=hpost
       obtain⟨hnx1,hnx2⟩:=readF_next (d+1) (outer+1) ys next nd nx HU.out.2.1 (by omega) HRR.out
       rw[hyl] at hnx2
       have hlow:=hI.out.low
       have hsz2:=hb2.size
       have hv2:=hb2.block nb (by omega) |>.trans hI.out.node
       have v2:w2.cell? ⟨nb,2,none⟩=some v:=by rw[Lib.cell_of_heap hv2];rfl
       have hv3:=(heap_old_ w2 (.cells #[c0,c1,c2] 40) (show nb<w2.heap.size by omega)).trans hv2
       have v3:(w2.alloc (.cells #[c0,c1,c2] 40)).cell? ⟨nb,2,none⟩=some v:=by rw[Lib.cell_of_heap hv3];rfl
       obtain⟨o0,o1,o2⟩:=hnd.one
       obtain⟨tk,Ak,lak,cak,Kk,lkk,ckk,ec0,ec1,ec2⟩:=hnd.shape
       subst ec0 ec1 ec2
       have hw3:Below w2.heap.size w2 ((w2.alloc (.cells #[.int .u8 tk,.slice Ak lak cak,.slice Kk lkk ckk] 40)).alloc (.cells #[.int .u8 tk,.slice Ak lak cak,.slice Kk lkk ckk] 40)):=((Below.refl _ _).alloc (Nat.le_refl _) _).alloc (by simp) _
       have hown3:=own_below (own_below hI.out.kids hb2) hw3
       have hnew:=heap_new_ (w2.alloc (.cells #[.int .u8 tk,.slice Ak lak cak,.slice Kk lkk ckk] 40)) (.cells #[.int .u8 tk,.slice Ak lak cak,.slice Kk lkk ckk] 40)
       rw[show(w2.alloc (.cells #[.int .u8 tk,.slice Ak lak cak,.slice Kk lkk ckk] 40)).heap.size=w2.heap.size+1 by simp] at hnew
       obtain⟨v',w4,hrun,hown',hgr,hob⟩:=app_node _ (nb+1) v ks.length cs hown3 (w2.heap.size+1) _ _ _ (by rw[Lib.cell_of_heap hnew];rfl) (by rw[Lib.cell_of_heap hnew];rfl) (by rw[Lib.cell_of_heap hnew];rfl) o0 o1 o2 (by omega) (by have:=hw3.size;omega)
       obtain⟨g',cap',hv'⟩: ∃g' cap',v'=.slice (some ⟨g',0,none⟩) (ks.length+1) cap':=by
         rcases hown'.2 with ⟨_,h⟩ | ⟨g',cap',_,h,_⟩
         · omega
         · exact⟨g',cap',h⟩
       have hsub:Bys w (some ⟨b,off+next,none⟩) (nx - next) ((ys.take nx).drop next):=by
         have h1:=(HU.out.upto (k:=nx) (by omega)).cut (k:=next) (cap:=nx+1) (by omega) (by omega)
         rw[if_neg (by omega)] at h1
         simpa[Addr.add_lit] using h1
       have n4:=hI.out.node4 (by omega) hb2 hw3 hgr
       have v4:w4.cell? ⟨nb,2,none⟩=some v:=by rw[Lib.cell_of_heap n4];rfl
       have f4:w4.frozen? ⟨nb,2,none⟩=false:=Lib.frozen_of_heap n4 _
       have hz5:(w4.setCell ⟨nb,2,none⟩ v').heap.size=w4.heap.size:=set_size _ _ _
       have hnew5:=heap_new_ (w4.setCell ⟨nb,2,none⟩ v') (.cells #[.slice (some ⟨b,off+next,none⟩) (nx - next) (c - next)] 28)
       rw[hz5] at hnew5
       have hz4:=hgr.size
       have hz3:=hw3.size
       obtain⟨v7',w7,hrun7,o7,g7,b7⟩:=app_row _ (nb+1) v7 bs.length vs (hI.out.mid (by omega) hb2 hw3 hgr v' (.cells #[.slice (some ⟨b,off+next,none⟩) (nx - next) (c - next)] 28)) w4.heap.size (.slice (some ⟨b,off+next,none⟩) (nx - next) (c - next)) (by rw[Lib.cell_of_heap hnew5];rfl) rfl (by omega) (by simp[set_size];omega)
       have hstep:=hI.out.step hPn (by omega) hb2 hnd hw3 hown' hgr hob hsub (by omega) o7 g7 b7
       have HST:=Lib.hid hstep
       have hq2:=hq.out
       rw[readL_ok (by omega) HRR.out,rk_add] at hq2
       have HQ2:=Lib.hid hq2
       have s1:(0:Int)≤(next:Int):=by omega
       have s2:(next:Int)≤(nx:Int):=by omega
       have s3:(nx:Int)≤(c:Int):=by omega
       have s4: ¬c - next=0:=by omega
       have hbl':(bs++[(ys.take nx).drop next]).length=(ks++[nd]).length:=by simp;omega
       have hkl':(ks++[nd]).length+F≤nx:=by simp;omega
       subst hv'
       clear hnd hown3 hnew hown' hgr hob hstep hq2 n4 hv2 hv3 hsub hq hb2 o0 o1 o2 hnew5 hz5 o7 g7 b7 hI HC hz4 hz3 hw3 hsz2 hlow
       go_upto_region 22 with (fail)
       go_upto_region 23 with (at_builtin;refine wpl_append rfl (.tmp 90) (.tmp 92) 38 rfl _ _ _ rfl rfl hrun ?_)
       go_wp2_with (at_builtin;refine wpl_append rfl (.tmp 95) (.tmp 100) 115 rfl _ _ _ rfl rfl hrun7 ?_)
       go_roundg gk'
       case measure=>omega
       case rel=>exact⟨nx,f',_,_,_,_,_,_,rfl,rfl,by omega,by omega,by omega,by omega,hkl',hbl',HQ2,HST⟩
    · obtain rfl:next=T:=by omega
      have hltz: ¬(next:Int)< (next:Int):=by omega
      have hR:R0=.ok (rkOf ks bs):=hq.out.symm.trans (by have:=readL_end (rec:=readF (d+1) (outer+1) ys) (ys:=ys) (f:=f) (k:=rkOf ks bs) trivial;rw[hyl] at this;exact this)
      subst hR
      have hvs: ∃K lk ck,v=.slice K lk ck:=by
        rcases hI.out.kids.2 with ⟨h,_⟩ | ⟨g,cap,_,h,_⟩
        · exact⟨_,_,_,h⟩
        · exact⟨_,_,_,h⟩
      obtain⟨K,lk,ck,hve⟩:=hvs
      obtain⟨L,cl,hv7,hLc,hLm,hbss⟩:=hI.out.reads
      have hris:=rising_any L bs.length cl bs wr hbss hLc hLm
      obtain⟨rs,hrs⟩: ∃x,risingB bs=x:=⟨_,rfl⟩
      obtain⟨lb,hlb⟩: ∃x,bs.length=x:=⟨_,rfl⟩
      have hRE:(if t=49∧(!rs)=true then RR.bad at_ 42 else RR.ok (.mk t [] ks) next)=RES:=by rw[←hrs];exact HRES.out
      have HRE:=Lib.hid hRE
      have hnbl:nb<wr.heap.size:=by have:=hI.out.low;omega
      have hend:=fun(W:World) (hW:Below wr.heap.size wr W)=>hI.out.below hW hnbl
      rw[hrs,hlb] at hris
      rw[hlb] at hv7
      subst hve hv7
      have HRIS:=Lib.hid hris
      have HEN:=Lib.hid hend
      clear hRE hris hend hbss hLc hLm hI HC HRES hrs hlb hq hbl
      by_cases ht:t=49
      · subst ht
        go_wp2_with fail
        refine HRIS.out.mono ?_
        rintro e w6 ⟨rfl,hb6⟩
        have hI6:=HEN.out w6 hb6
        obtain⟨d0,d1,d2⟩:=hI6.box.cells
        obtain⟨g0,g1,g2⟩:=hI6.box.free
        have hn6:=hI6.node
        cases rs with
        |false=>
         have hE:RES=.bad at_ 42:=HRE.out.symm
         have hb3:=hI6.box
         obtain⟨r0,r1,r2,hbl⟩:=hb3.set (.int .u8 0) (.slice none 0 0) (.slice none 0 0)
         have HE:=Lib.hid hbl
         clear hb3 hbl hI6 HRE HRIS HEN hn6 hb6
         subst hE
         go_wp2
         refine bodyPost_ret (v:=.tuple #[.agg #[.int .u8 0,.slice none 0 0,.slice none 0 0],.int .i64 at_,.int .i64 42]) ?_ rfl ⟨HE.out,rfl⟩
         simp[results,Tryz.results57,go_sem,r0,r1,r2]
        |true=>
         have hE:RES=.ok (.mk 49 [] ks) next:=HRE.out.symm
         have m0:w6.cell? ⟨nb,0,none⟩=some (.int .u8 49):=by rw[Lib.cell_of_heap hn6];rfl
         have m1:w6.cell? ⟨nb,1,none⟩=some (.slice none 0 0):=by rw[Lib.cell_of_heap hn6];rfl
         have m2:w6.cell? ⟨nb,2,none⟩=some (.slice K lk ck):=by rw[Lib.cell_of_heap hn6];rfl
         obtain⟨r0,r1,r2,hbl⟩:=hI6.box.set (.int .u8 49) (.slice none 0 0) (.slice K lk ck)
         have HE:=Lib.hid (And.intro hbl (hI6.box.fin (hI6.nd htag hPn (by omega))))
         clear hbl hI6 HRE HRIS HEN hn6 hb6
         subst hE
         go_wp2
         refine bodyPost_ret (v:=.tuple #[.agg #[.int .u8 49,.slice none 0 0,.slice K lk ck],.int .i64 next,.int .i64 0]) ?_ rfl ⟨HE.out.1,_,rfl,HE.out.2⟩
         simp[results,Tryz.results57,go_sem,r0,r1,r2]
      · have htb:(t==49)=false:=by simpa using ht
        have hI6:=HEN.out wr (Below.refl _ _)
        obtain⟨d0,d1,d2⟩:=hI6.box.cells
        obtain⟨g0,g1,g2⟩:=hI6.box.free
        have hn6:=hI6.node
        have hE:RES=.ok (.mk t [] ks) next:=HRE.out.symm.trans (if_neg (fun h=>ht h.1))
        have m0:wr.cell? ⟨nb,0,none⟩=some (.int .u8 t):=by rw[Lib.cell_of_heap hn6];rfl
        have m1:wr.cell? ⟨nb,1,none⟩=some (.slice none 0 0):=by rw[Lib.cell_of_heap hn6];rfl
        have m2:wr.cell? ⟨nb,2,none⟩=some (.slice K lk ck):=by rw[Lib.cell_of_heap hn6];rfl
        obtain⟨r0,r1,r2,hbl⟩:=hI6.box.set (.int .u8 t) (.slice none 0 0) (.slice K lk ck)
        have HE:=Lib.hid (And.intro hbl (hI6.box.fin (hI6.nd htag hPn (by omega))))
        clear hbl hI6 HRE HRIS HEN hn6
        subst hE
        go_wp2
        refine bodyPost_ret (v:=.tuple #[.agg #[.int .u8 t,.slice none 0 0,.slice K lk ck],.int .i64 next,.int .i64 0]) ?_ rfl ⟨HE.out.1,_,rfl,HE.out.2⟩
        simp[results,Tryz.results57,go_sem,r0,r1,r2]
end Go.Proofs.YtconbejjagcnkaaGreatDoor.ndc
namespace Go.Proofs.YtconbejjagcnkaaGreatDoor.ndc
open Go.RowKit Go.Proofs.YtconbejjagcnkaaGreatDoor.tlvc Go.Proofs.YtconbejjagcnkaaGreatDoor.tlvd Go.Proofs.YtconbejjagcnkaaGreatDoor.txc
set_option linter.unusedVariables false
set_option linter.unusedSimpArgs false
theorem parses_all: ∀d outer:Nat,d+outer=32→Parses (d+1) outer
  |d,outer,hdo=>by
   intro A n c en xs at_ w hx hc hm hen hat hT
   have hl:(xs.take en).length=en:=by rw[List.length_take,hx.1];omega
   by_cases hh:(headF ((xs.take en).drop at_)).1=0
   · obtain⟨t,F,T,hs,eF,eT,et⟩:=spot_of (hx.upto hen).2.1 (by rw[hl];exact hat) hh
     rw[readF_spot hh eF eT et]
     have hTe:T≤en:=by have:=hs.hi;omega
     have e1:(xs.take en).take T=xs.take T:=by rw[List.take_take];congr 1;omega
     rw[e1]
     by_cases ho:32≤outer∨tagF t≠0
     · have ha:aloneF t ((xs.take T).drop F) outer=if 32≤outer then 41 else tagF t:=by
         rw[aloneF_own]
         by_cases h32:32≤outer
         · rw[if_pos h32,if_pos h32]
         · rw[if_neg h32,if_neg h32]
           exact own_tag (by rcases ho with h |h;exact absurd h h32;exact h)
       rw[ha]
       have hne:(if 32≤outer then 41 else tagF t)≠0:=by
         by_cases h32:32≤outer
         · rw[if_pos h32];decide
         · rw[if_neg h32];rcases ho with h |h;exact absurd h h32;exact h
       rw[if_pos hne]
       exact parse_own d outer A n c en xs at_ F T t w hx hc hm hen hs ho
     · have h32: ¬32≤outer:=fun h=>ho (.inl h)
       have ht0:tagF t=0:=Decidable.byContradiction fun h=>ho (.inr h)
       have ha:aloneF t ((xs.take T).drop F) outer=ownF t ((xs.take T).drop F):=by rw[aloneF_own,if_neg h32]
       rw[ha]
       by_cases hcp:compB t=false
       · have hpl:=parse_plain outer A n c en xs at_ F T t w hx hc hm hen hs hT h32 ht0 hcp
         have hc6: ¬32≤t%64:=by unfold compB at hcp;simpa using hcp
         have hown:=own_plain (t:=t) (xs:=(xs.take T).drop F) ⟨by omega,by omega⟩
         rw[if_pos ht0] at hown
         rw[←hown]
         unfold bodyF
         by_cases hb:bodyB t ((xs.take T).drop F)=true
         · rw[if_pos hb] at hpl⊢
           rw[if_neg (by simp),if_pos hcp]
           exact hpl
         · rw[if_neg hb] at hpl⊢
           rw[if_pos (by decide)]
           exact hpl
       · have hcp1:compB t=true:=by simpa using hcp
         have hc6:32≤t%64:=by unfold compB at hcp1;simpa using hcp1
         have hown:=own_comp (t:=t) (xs:=(xs.take T).drop F) hc6
         rw[←hown,ht0,if_neg (by decide),if_neg hcp]
         obtain⟨d',rfl⟩: ∃d',d=d'+1:=⟨d - 1,by omega⟩
         exact parse_comp d' outer (parses_all d' (outer+1) (by omega)) (by omega) A n c en xs at_ F T t w hx hc hm hen hs hT ht0 hcp1
   · have hr:readF (d+1) outer (xs.take en) at_=.bad at_ (headF ((xs.take en).drop at_)).1:=by
       show(if _ then _ else _)=_
       rw[if_pos hh]
     exact parse_bad d outer A n c en xs at_ w hx hc hm hat hen hh
set_option maxRecDepth 100000 in
set_option maxHeartbeats 8000000 in
theorem refParse_any (A:Option Addr)(n c:Nat)(xs:List Int)(w:World)(hx:Bys w A n xs)(hc:n≤c)(hm:c≤maxLen)(hT:Tabs w):
    Calls Tryz.prog 26 #[.slice A n c] w (PPost w (readAllF xs)):=by
  have hl:=hx.1
  have hb0:=Box0.start w
  have hrd:=parses_all 32 0 rfl A n c n xs 0 (w.alloc (.cells #[.int .u8 0,.slice none 0 0,.slice none 0 0] 40)) (hx.below hb0.bel) hc hm (Nat.le_refl _) (Nat.zero_le _) (hT.below hb0.bel)
  have e1:xs.take n=xs:=List.take_of_length_le (by omega)
  rw[e1] at hrd
  have hpl:=fun a e h=>readF_place 32 0 xs 0 a e rfl hx.2.1 (Nat.zero_le _) h
  have hnx:=fun nd nx h=>readF_next 33 0 xs 0 nd nx hx.2.1 (Nat.zero_le _) h
  obtain⟨R,hR⟩: ∃x,readF 33 0 xs 0=x:=⟨_,rfl⟩
  rw[hR] at hrd hpl hnx
  obtain⟨RES,hRES⟩: ∃x,readAllF xs=x:=⟨_,rfl⟩
  rw[hRES]
  unfold readAllF at hRES
  rw[hR,hl] at hRES
  have HR:=Lib.hid hrd
  have HRES:=Lib.hid hRES
  have HP:=Lib.hid hpl
  have HN:=Lib.hid hnx
  clear hrd hR hRES hx hpl hnx
  go_enter Tryz.func26,Tryz.ntmps26
  go_wp2_with fail
  refine HR.out.mono ?_
  rintro e w2 ⟨hb2,hpost⟩
  clear HR
  cases R with
  |bad a er=>
   simp only at hpost
   subst hpost
   have her:er≠0:=(HP.out a er rfl).2
   have herb:(er==0)=false:=by simpa using her
   have herc:(er !=0)=true:=by simpa using her
   have hE:RES=.bad a er:=HRES.out.symm
   subst hE
   have hb3:=(hb0.below hb2).below (below_new w2 (.cells #[.int .u8 0,.slice none 0 0,.slice none 0 0] 40))
   obtain⟨d0,d1,d2⟩:=hb3.cells
   obtain⟨g0,g1,g2⟩:=hb3.free
   obtain⟨r0,r1,r2,hbl⟩:=hb3.set (.int .u8 0) (.slice none 0 0) (.slice none 0 0)
   have HE:=Lib.hid hbl
   clear hb3 hbl hb2 hb0 HRES HP HN
   go_wp2
   refine bodyPost_ret (v:=.tuple #[.agg #[.int .u8 0,.slice none 0 0,.slice none 0 0],.int .i64 a,.int .i64 er]) ?_ rfl ⟨HE.out,rfl⟩
   simp[results,Tryz.results26,go_sem,r0,r1,r2]
  |ok nd nx=>
   obtain⟨v,rfl,c0,c1,c2,rfl,hnd⟩:=hpost
   obtain⟨tk,Ak,lak,cak,Kk,lkk,ckk,ec0,ec1,ec2⟩:=hnd.shape
   subst ec0 ec1 ec2
   have hb3:=(hb0.below hb2).below (below_new w2 (.cells #[.int .u8 tk,.slice Ak lak cak,.slice Kk lkk ckk] 40))
   have hnn:=(HN.out nd nx rfl).2
   obtain⟨d0,d1,d2⟩:=hb3.cells
   obtain⟨g0,g1,g2⟩:=hb3.free
   by_cases hlt:nx<n
   · have hltz:(nx:Int)< (n:Int):=by omega
     have hE:RES=.bad nx 44:=HRES.out.symm.trans (if_pos hlt)
     obtain⟨r0,r1,r2,hbl⟩:=hb3.set (.int .u8 0) (.slice none 0 0) (.slice none 0 0)
     have HE:=Lib.hid hbl
     clear hb3 hbl hb2 hb0 HRES HP HN hnd
     subst hE
     go_wp2
     refine bodyPost_ret (v:=.tuple #[.agg #[.int .u8 0,.slice none 0 0,.slice none 0 0],.int .i64 nx,.int .i64 44]) ?_ rfl ⟨HE.out,rfl⟩
     simp[results,Tryz.results26,go_sem,r0,r1,r2]
   · have hltz: ¬(nx:Int)< (n:Int):=by omega
     have hE:RES=.ok nd nx:=HRES.out.symm.trans (if_neg hlt)
     have hnd3:=NdC.below (w':=w2.alloc (.cells #[.int .u8 tk,.slice Ak lak cak,.slice Kk lkk ckk] 40)) (below_new w2 _) _ _ _ _ hnd
     obtain⟨r0,r1,r2,hbl⟩:=hb3.set (.int .u8 tk) (.slice Ak lak cak) (.slice Kk lkk ckk)
     have hfin:=hb3.fin (NdC.mono (B':=fun g=>w.heap.size<g) (fun g hg=>by have h1:=hb0.size;have hg:_≤g:=hg;show w.heap.size<g;omega) _ _ _ _ hnd3)
     have HE:=Lib.hid (And.intro hbl hfin)
     clear hb3 hbl hb2 hb0 HRES HP HN hnd hnd3 hfin
     subst hE
     go_wp2
     refine bodyPost_ret (v:=.tuple #[.agg #[.int .u8 tk,.slice Ak lak cak,.slice Kk lkk ckk],.int .i64 0,.int .i64 0]) ?_ rfl ⟨HE.out.1,_,rfl,HE.out.2⟩
     simp[results,Tryz.results26,go_sem,r0,r1,r2]
end Go.Proofs.YtconbejjagcnkaaGreatDoor.ndc
namespace Go.Proofs.YtconbejjagcnkaaGreatDoor.ndc
open Go.RowKit Go.Proofs.YtconbejjagcnkaaGreatDoor.tlvc Go.Proofs.YtconbejjagcnkaaGreatDoor.tlvd Go.Proofs.YtconbejjagcnkaaGreatDoor.txc
set_option linter.unusedVariables false
def ansN:RR→Nd
  | .bad _ _=>.mk 0 [] []
  | .ok n _=>n
def ansA:RR→Int
  | .bad a _=>a
  | .ok _ _=>0
def ansE:RR→Int
  | .bad _ e=>e
  | .ok _ _=>0
theorem nil_nd (B:Nat→Prop)(w:World):NdC B w (.mk 0 [] []) (.int .u8 0) (.slice none 0 0) (.slice none 0 0):=by
  unfold NdC
  exact⟨rfl,by omega,⟨none,0,0,rfl,Nat.le_refl _,Nat.zero_le _,Bys.nil_ _ _,fun h=>absurd h (by omega)⟩,none,0,rfl,Nat.le_refl _,Nat.zero_le _,fun h=>absurd h (by simp)⟩
theorem PPost.all {w w':World}{r:RR}{e:Ending}(h:PPost w r e w'):Below w.heap.size w w'∧∃t A la ca K lk ck,e=.returned (.tuple #[.agg #[.int .u8 t,.slice A la ca,.slice K lk ck],.int .i64 (ansA r),.int .i64 (ansE r)])∧NdC (fun g=>w.heap.size≤g) w' (ansN r) (.int .u8 t) (.slice A la ca) (.slice K lk ck):=by
  obtain⟨hb,h⟩:=h
  refine⟨hb,?_⟩
  cases r with
  |bad a er=>exact⟨_,_,_,_,_,_,_,h,nil_nd _ _⟩
  |ok n nx=>
   obtain⟨v,he,c0,c1,c2,rfl,hn⟩:=h
   obtain⟨tk,Ak,lak,cak,Kk,lkk,ckk,ec0,ec1,ec2⟩:=hn.shape
   subst ec0 ec1 ec2
   exact⟨_,_,_,_,_,_,_,he,hn⟩
/-- append of bytes to a row of the call's own, as many as memory bears. -/
theorem app_long (w:World)(base:Nat)(v:Value)(n:Nat)(cs:List Value)(hown:w.ownsRow base 5 1 v n cs)(A:Option Addr)(m c:Nat)(ys:List Int)(hb:Bys w A m ys)(hn:n+m≤140737488355328)(hbase:base≤w.heap.size):
    ∃v' w',(Builtin.append_ #[28,28] 28 #[v,.slice A m c]).run Tryz.prog w=.ok v' w'∧w'.ownsRow base 5 1 v' (n+m) (cs++vals ys)∧w.grownBy w' v.ownBlock∧(v'.ownBlock=v.ownBlock∨ ∃g',v'.ownBlock=some g'∧w.heap.size≤g'):=by
  obtain⟨i0,hi,hz0,hz1,hz2⟩:=info_parts intc.Tryz.info5
  rcases A with _ |ad
  · have hm:m=0:=by
      rcases Nat.eq_zero_or_pos m with h0 |h0
      · exact h0
      · obtain⟨b,off,h,_⟩:=hb.2.2 h0
        cases h
    subst hm
    have hn:ys=[]:=List.eq_nil_of_length_eq_zero hb.1
    subst hn
    exact⟨v,w,run_app_nil w base 28 28 5 i0 Tryz.underlying28 hi v n cs hown c,by simpa[vals] using hown,World.grownBy.refl w _,.inl rfl⟩
  · obtain⟨v',w',h1,h2,h3,_,h5⟩:=app_gen (P:=Tryz.prog) w base 28 28 5 i0 (.int .u8 0) 1 1 Tryz.underlying28 hi hz0 hz1 hz2 rfl (by decide) v n cs hown ad m c (vals ys) (by rw[vals_length,hb.1];omega)
      (fun j u hu=>by
        have hj:j<ys.length:=by
          have:=(List.getElem?_eq_some_iff.1 hu).1
          rwa[vals_length] at this
        obtain⟨b,off,h,_,hc⟩:=hb.2.2 (by have:=hb.1;omega)
        cases h
        rw[Addr.add_lit,hc j (by have:=hb.1;omega),←hu]
        simp[vals,List.getD_eq_getElem?_getD,List.getElem?_eq_getElem hj]) (vals_one ys) (by unfold maxLen;omega) (by omega) hbase
    exact⟨v',w',h1,h2,h3,h5⟩
end Go.Proofs.YtconbejjagcnkaaGreatDoor.ndc
