/- The writer: what it stands on. Kids' bytes, written one behi -/
import Derived.Test.YtkjkhoglkpepiaaGreatDoorNc
import Derived.Test.YtkjkhoglkpepiaaGreatDoorLb
import Derived.WalkLawsBesides
set_option maxRecDepth 100000
set_option maxHeartbeats 16000000
set_option linter.unusedVariables false
set_option linter.unusedSimpArgs false
namespace Go.Proofs.YtkjkhoglkpepiaaGreatDoor.ndc
open Go.RowKit tlvc tlvd txc
theorem app_bytes (w:World)(base:Nat)(v:Value)(n:Nat)(cs:List Value)(hown:w.ownsRow base 5 1 v n cs)(A:Option Addr)(m c:Nat)(ys:List Int)(hb:Bys w A m ys)(hn:n+m≤1000000)(hbase:base≤w.heap.size):
 ∃v' w',(Builtin.append_ #[34,34] 34 #[v,.slice A m c]).run Tryz.prog w=.ok v' w'∧w'.ownsRow base 5 1 v' (n+m) (cs++vals ys)∧w.grownBy w' v.ownBlock∧(v'.ownBlock=v.ownBlock∨ ∃g',v'.ownBlock=some g'∧w.heap.size≤g'):=by
 obtain⟨i0,hi,hz0,hz1,hz2⟩:=info_parts intc.Tryz.info5
 obtain⟨v',w',hr,hown',hgr⟩:=run_app (P:=Tryz.prog) w base 34 34 5 i0 (.int .u8 0) Tryz.underlying34 hi hz0 hz1 hz2 rfl v n cs hown A m c ys hb (by omega) hbase
 refine⟨v',w',hr,hown',hgr,?_⟩
 rcases hown.2 with ⟨rfl,rfl⟩ | ⟨gv,cap,cur,rfl,hbg,hg,hnc,hcm,hcs,htake⟩
 ·have hcs:cs=[]:=List.eq_nil_of_length_eq_zero (by simpa using hown.1)
  obtain⟨v2,w2,hr2,hown2,_⟩:=run_app (P:=Tryz.prog) w w.heap.size 34 34 5 i0 (.int .u8 0) Tryz.underlying34 hi hz0 hz1 hz2 rfl (.slice none 0 0) 0 [] (World.ownsRow_nil _ _ _ _) A m c ys hb (by omega) (lr_ _)
  rw[hr] at hr2
  obtain⟨rfl,rfl⟩:=Result.ok.inj hr2
  rcases hown2.2 with ⟨rfl,_⟩ | ⟨g',_,_,rfl,hb',_⟩
  ·exact .inl rfl
  ·exact .inr ⟨g',rfl,hb'⟩
 ·rcases A with _ |ad
  ·have hm:m=0:=by
    rcases Nat.eq_zero_or_pos m with h0 |h0
    ·exact h0
    ·obtain⟨b,off,h,_⟩:=hb.2.2 h0
     cases h
   subst hm
   have hr2:=run_app_nil (P:=Tryz.prog) w base 34 34 5 i0 Tryz.underlying34 hi _ n cs hown c
   rw[hr] at hr2
   obtain⟨rfl,_⟩:=Result.ok.inj hr2
   exact .inl rfl
  ·have hnews: ∀j u,(vals ys)[j]? =some u→w.cell? (ad.add j)=some u:=by
    intro j u hu
    have hj:j<ys.length:=by
     have:=(List.getElem?_eq_some_iff.1 hu).1
     rwa[vals_length] at this
    obtain⟨b,off,h,_,hc⟩:=hb.2.2 (by have:=hb.1;omega)
    cases h
    rw[Addr.add_lit,hc j (by have:=hb.1;omega),←hu]
    simp[vals,List.getD_eq_getElem?_getD,List.getElem?_eq_getElem hj]
   by_cases hroom:n+m≤cap
   ·have hr2:=run_append_room (P:=Tryz.prog) w 34 34 5 i0 Tryz.underlying34 hi gv n cap cur hg ad m c (vals ys) (by rw[hz1,vals_length,hb.1];omega) hnews (vals_one ys) hroom (by rw[hz1,hcs,vals_length,hb.1];omega)
    rw[hr] at hr2
    obtain⟨rfl,_⟩:=Result.ok.inj hr2
    exact .inl rfl
   ·have holds: ∀j u,cs[j]? =some u→w.cell? ((⟨gv,0,none⟩:Addr).add j)=some u:=hown.cells (g:=gv) rfl
    have hr2:=run_append_grow (P:=Tryz.prog) w 34 34 5 i0 (.int .u8 0) Tryz.underlying34 hi hz0 ⟨gv,0,none⟩ n cap cs (by rw[hz1];exact hown.1) holds ad m c (vals ys) (by rw[hz1,vals_length,hb.1];omega) hnews (by omega) (by unfold maxLen at*;omega) (growslice_fits (by omega) (by rw[hz2];omega))
    rw[hr] at hr2
    obtain⟨rfl,_⟩:=Result.ok.inj hr2
    exact .inr ⟨_,rfl,lr_ _⟩
theorem misplaced_any {B:Nat→Prop}(t:Int)(b:List Int)(ks:List Nd)(v:Value)(w:World)(hv:NdV B w (.mk t b ks) v):
 Calls Tryz.prog 62 #[v] w fun e w'=>e=.returned (.bool (misF t b ks.length))∧Below w.heap.size w w':=by
 obtain⟨c0,c1,c2,rfl,hc⟩:=hv
 unfold NdC at hc
 obtain⟨rfl,ht,⟨A,la,ca,rfl,hA1,hA2,hA3,_⟩,K,ck,rfl,hK1,hK2,_⟩:=hc
 have hbw:Below w.heap.size w (w.alloc (.cells #[.int .u8 t,.slice A la ca,.slice K ks.length ck] 43)):=(br_ _ _).alloc (lr_ _) _
 have hcm:=fun W=>compound_any t W ht
 obtain⟨cp,hcp⟩:=nm_ (compB t)
 unfold misF
 rw[hcp] at hcm⊢
 rw[hA3.1]
 have HC:=hd_ hcm
 obtain⟨len,hlen⟩:=nm_ (ks.length)
 rw[hlen] at hbw⊢
 clear hcm hcp hA3
 cases cp
 ·go_enter Tryz.func62,Tryz.ntmps62
  go_wp2_with fail
  refine(HC.out _).mono ?_
  rintro e w' ⟨rfl,rfl⟩
  go_wp2
  go_ret
  exact⟨ret_b (by first |rfl |simp),hbw⟩
 ·go_enter Tryz.func62,Tryz.ntmps62
  go_wp2_with fail
  refine(HC.out _).mono ?_
  rintro e w' ⟨rfl,rfl⟩
  go_wp2
  go_ret
  exact⟨ret_b (by first |rfl |simp),hbw⟩
def WPost (w:World)(r:WR)(e:Ending)(w':World):Prop:=
 Below w.heap.size w w'∧match r with
 | .no er=>e=.panicked (Up (.iface 35 (.int .i64 er)))
 | .ok b=>∃A c,e=.returned (.slice A b.length c)∧Bys w' A b.length b∧(b.length≤c∧c≤maxLen)∧∀g off sp,A=some ⟨g,off,sp⟩→w.heap.size≤g
def Writes (n:Nd)(outer:Nat):Prop:=∀(B:Nat→Prop) (v:Value) (w:World),NdV B w n v→Tabs w→Calls Tryz.prog 28 #[v,.int .i64 outer] w (WPost w (writeF n outer))
theorem putW_len {t:Int}{xs b:List Int}(h:putW t xs=.ok b):b.length≤65539:=by
 unfold putW at h
 split at h
 ·rename_i hx
  cases h
  unfold putF at hx⊢
  split at hx
  ·exact absurd hx (by decide)
  ·split at hx
   ·exact absurd hx (by decide)
   ·rename_i h1 h2
    rw[if_neg h1,if_neg h2]
    have hl:=put_len t xs
    have hh:=hdr_length (xs.length:Int)
    show(putBytes t xs).length≤_
    split at hh
    ·omega
    ·split at hh<;>omega
 ·cases h
theorem writeF_len {n:Nd}{outer:Nat}{b:List Int}(h:writeF n outer=.ok b):b.length≤65539:=by
 obtain⟨t,b0,ks⟩:=n
 unfold writeF at h
 split at h
 ·cases h
 ·split at h
  ·cases h
  ·split at h
   ·unfold finW at h
    split at h
    ·cases h
    ·exact putW_len h
   ·exact putW_len h
end Go.Proofs.YtkjkhoglkpepiaaGreatDoor.ndc
namespace Go.Proofs.YtkjkhoglkpepiaaGreatDoor.ndc
open Go.RowKit tlvc tlvd txc
structure KInv (w:World) (rb:Nat) (k:WK) (v:Value) (wx:World):Prop where
 bel:Below w.heap.size w wx
 low:rb+1≤wx.heap.size
 own:wx.ownsRow (rb+1) 5 1 v k.body.length (vals k.body)
 fit:Fit k.body
 row: ∃L ln lc,wx.heap[rb]? =some (.cells #[.slice L ln lc,.bool k.falls] 184)∧Bys wx L ln k.last∧(0<ln→∀g off sp,L=some ⟨g,off,sp⟩→g≠rb∧some g≠v.ownBlock)
theorem KInv.rowAt {w:World}{rb:Nat}{k:WK}{v:Value}{wx w2:World}(h:KInv w rb k v wx)(hb:Below wx.heap.size wx w2):RowAt w2 rb k.last k.falls:=by
 obtain⟨L,ln,lc,hr,hl,_⟩:=h.row
 have hlow:=h.low
 have r2:=(hb.block rb (by omega)).trans hr
 exact⟨⟨L,ln,lc,by rw[ch_ r2];rfl,hl.below hb⟩,by rw[ch_ r2];rfl,fun x=>fh_ r2 x,by have:=hb.size;omega⟩
theorem own_far {w:World}{base g i n:Nat}{e:TypeId}{v x:Value}{cs:List Value}(h:w.ownsRow base e 1 v n cs)(hg:g<base):(w.setCell ⟨g,i,none⟩ x).ownsRow base e 1 v n cs:=by
 refine⟨h.1,?_⟩
 rcases h.2 with hn | ⟨g',cap,cur,rfl,hb,hgg,rest⟩
 ·exact .inl hn
 ·exact .inr ⟨g',cap,cur,rfl,hb,(set_heap_other _ _ _ _ _ (by omega)).trans hgg,rest⟩
theorem KInv.step {w:World}{rb:Nat}{k:WK}{v:Value}{wx w2:World}(h:KInv w rb k v wx)(hP:w.heap.size≤rb)(hb:Below wx.heap.size wx w2){A:Option Addr}{c:Nat}{b:List Int}(hA:Bys w2 A b.length b)(hfr: ∀g off sp,A=some ⟨g,off,sp⟩→wx.heap.size≤g):
 KInv w rb ⟨k.body,b,k.falls || behind k.last b⟩ v ((w2.setCell ⟨rb,1,none⟩ (.bool (k.falls || behind k.last b))).setCell ⟨rb,0,none⟩ (.slice A b.length c)):=by
 obtain⟨L,ln,lc,hr,hl,_⟩:=h.row
 have hlow:=h.low
 have z2:=hb.size
 have r2:=(hb.block rb (by omega)).trans hr
 have hB:=h.bel.trans (hb.mono h.bel.size)
 have far: ∀g,g≠rb→((w2.setCell ⟨rb,1,none⟩ (.bool (k.falls || behind k.last b))).setCell ⟨rb,0,none⟩ (.slice A b.length c)).heap[g]? =w2.heap[g]? :=fun g hg=>by
  rw[set_heap_other _ _ _ _ _ hg,set_heap_other _ _ _ _ _ hg]
 refine⟨(hB.setCell (show w.heap.size≤(⟨rb,1,none⟩:Addr).block from hP) _).setCell (show w.heap.size≤(⟨rb,0,none⟩:Addr).block from hP) _,by rw[set_size,set_size];omega,own_far (own_far (own_below h.own hb) (Nat.lt_succ_self _)) (Nat.lt_succ_self _),h.fit,A,b.length,c,?_,?_,fun hl' g off sp e=>?_⟩
 ·exact set_heap _ rb 0 _ _ _ _ (set_heap w2 rb 1 _ _ _ _ r2)
 ·exact bys_stays (B:=fun g=>wx.heap.size≤g) ⟨by rw[set_size,set_size];exact lr_ _,fun p hp _=>cell_same (far p.block (by have hp:wx.heap.size≤p.block:=hp;omega))⟩ hA (fun hl' g off sp e=>hfr g off sp e)
 ·have:=hfr g off sp e
  refine⟨by omega,fun e2=>?_⟩
  have:=(h.own.lt g e2.symm).2
  omega
theorem KInv.grow {w:World}{rb:Nat}{k:WK}{v v':Value}{wx w4:World}(h:KInv w rb k v wx)(hP:w.heap.size≤rb){b:List Int}(hfb:Fit b)(hown':w4.ownsRow (rb+1) 5 1 v' (k.body.length+b.length) (vals k.body++vals b))(hgr:wx.grownBy w4 v.ownBlock)(hob:v'.ownBlock=v.ownBlock∨ ∃g',v'.ownBlock=some g'∧wx.heap.size≤g'):
 KInv w rb ⟨k.body++b,k.last,k.falls⟩ v' w4:=by
 obtain⟨L,ln,lc,hr,hl,hL⟩:=h.row
 have hlow:=h.low
 have z:=hgr.size
 have hlt:=h.own.lt
 refine⟨h.bel.grown hgr h.bel.size (fun j hj=>by have:=(hlt j hj).1;omega),by omega,?_,h.fit.app hfb,L,ln,lc,?_,?_,fun hl' g off sp e=>?_⟩
 ·rw[List.length_append,vals_append];exact hown'
 ·exact(hgr.block rb (by omega) (fun e=>by have:=(hlt rb e.symm).1;omega)).trans hr
 ·rcases Nat.eq_zero_or_pos ln with h0 |h0
  ·subst h0;exact⟨hl.1,hl.2.1,fun h=>absurd h (by omega)⟩
  ·exact Bys.kept hl hgr (fun b' off' e=>(hL h0 b' off' none e).2)
 ·refine⟨(hL hl' g off sp e).1,fun e2=>?_⟩
  rcases hob with h1 | ⟨g',h1,h2⟩
  ·exact(hL hl' g off sp e).2 (by rw[←h1];exact e2)
  ·rw[h1] at e2;cases e2
   obtain⟨b',off',e',hb',_⟩:=hl.2.2 hl'
   rw[e'] at e;cases e;omega
end Go.Proofs.YtkjkhoglkpepiaaGreatDoor.ndc
namespace Go.Proofs.YtkjkhoglkpepiaaGreatDoor.ndc
open Go.RowKit tlvc tlvd txc
theorem writeL_no {n:Nd}{ns:List Nd}{outer:Nat}{k:WK}{e:Int}(h:writeF n outer=.no e):writeL (n::ns) outer k=.no e:=by
 conv=>lhs;unfold writeL
 rw[h]
theorem writeL_ok {n:Nd}{ns:List Nd}{outer:Nat}{k:WK}{b:List Int}(h:writeF n outer=.ok b):writeL (n::ns) outer k=writeL ns outer (k.add b):=by
 conv=>lhs;unfold writeL
 rw[h]
theorem writeL_nil {outer:Nat}{k:WK}:writeL [] outer k=.ok k:=by unfold writeL;rfl
theorem KInv.stepBys {w:World}{rb:Nat}{k:WK}{v:Value}{wx w2:World}(h:KInv w rb k v wx)(hb:Below wx.heap.size wx w2){A:Option Addr}{c:Nat}{b:List Int}(x:Bool)(hA:Bys w2 A b.length b)(hfr: ∀g off sp,A=some ⟨g,off,sp⟩→wx.heap.size≤g):
 Bys ((w2.setCell ⟨rb,1,none⟩ (.bool x)).setCell ⟨rb,0,none⟩ (.slice A b.length c)) A b.length b:=by
 have hlow:=h.low
 have z2:=hb.size
 have far: ∀g,g≠rb→((w2.setCell ⟨rb,1,none⟩ (.bool x)).setCell ⟨rb,0,none⟩ (.slice A b.length c)).heap[g]? =w2.heap[g]? :=fun g hg=>by
  rw[set_heap_other _ _ _ _ _ hg,set_heap_other _ _ _ _ _ hg]
 exact bys_stays (B:=fun g=>wx.heap.size≤g) ⟨by rw[set_size,set_size];exact lr_ _,fun p hp _=>cell_same (far p.block (by have hp:wx.heap.size≤p.block:=hp;omega))⟩ hA (fun hl' g off sp e=>hfr g off sp e)
theorem kids_any (t:Int)(b:List Int)(ks:List Nd)(outer:Nat)(IH: ∀n∈ks,Writes n outer)(B:Nat→Prop)(v:Value)(w:World)(hv:NdV B w (.mk t b ks) v)(hT:Tabs w):
 Calls Tryz.prog 64 #[v,.int .i64 outer] w (WPost w (kresF t (writeL ks outer wk0))):=by
 obtain⟨c0,c1,c2,rfl,hc⟩:=hv
 unfold NdC at hc
 obtain⟨rfl,ht,⟨A,la,ca,rfl,hA1,hA2,hA3,_⟩,K,ck,rfl,hK1,hK2,hK3⟩:=hc
 have hK9:ck≤9223372036854775807:=by unfold maxLen at hK2;omega
 obtain⟨RES,hRES⟩:=nm_ (kresF t (writeL ks outer wk0))
 rw[hRES]
 obtain⟨R0,hR0⟩:=nm_ (writeL ks outer wk0)
 rw[hR0] at hRES
 have HRES:=hd_ hRES
 have HR:=hd_ hR0
 have HI:=hd_ IH
 have HK:=hd_ hK3
 obtain⟨len,hlen⟩:=nm_ (ks.length)
 rw[hlen] at hK1⊢
 clear IH hK3 hRES hR0 hA3
 go_enter Tryz.func64,Tryz.ntmps64
 go_wp2_with fail
 obtain⟨W0,hW0⟩:=nm_ ((w.alloc (.cells #[.int .u8 t,.slice A la ca,.slice K len ck] 43)).alloc (.cells #[.slice none 0 0,.bool false] 184))
 have hz0:W0.heap.size=w.heap.size+2:=by rw[←hW0];simp
 have hbox:W0.heap[w.heap.size]? =some (.cells #[.int .u8 t,.slice A la ca,.slice K len ck] 43):=by rw[←hW0,heap_old_ _ _ (by simp)];exact heap_new_ _ _
 have hInv:KInv w (w.heap.size+1) wk0 (.slice none 0 0) W0:=by
  refine⟨?_,by omega,World.ownsRow_nil _ _ _ _,fun x hx=>by simp[wk0] at hx,none,0,0,?_,Bys.nil_ _ _,fun h=>absurd h (by omega)⟩
  ·rw[←hW0];exact((br_ _ _).alloc (lr_ _) _).alloc (by simp) _
  ·rw[←hW0]
   have:=heap_new_ (w.alloc (.cells #[.int .u8 t,.slice A la ca,.slice K len ck] 43)) (.cells #[.slice none 0 0,.bool false] 184)
   rwa[show(w.alloc (.cells #[.int .u8 t,.slice A la ca,.slice K len ck] 43)).heap.size=w.heap.size+1 by simp] at this
 have HV:=hd_ hInv
 have HBX:=hd_ hbox
 rw[hW0]
 clear hW0 hInv hbox
 go_wp2_with fail
 go_loopg [5,13] (len+1) (fun gk s5 s13 wx=>∃(i:Nat) (k:WK) (Av:Option Addr) (cv:Nat),s13=.int .i64 i∧s5=.slice Av k.body.length cv∧i≤len∧len - i<gk∧k.body.length≤131074∧Hid (writeL (ks.drop i) outer k=R0)∧Hid (KInv w (w.heap.size+1) k (.slice Av k.body.length cv) wx)∧Below (w.heap.size+1) W0 wx)
 case atStart=>exact⟨0,wk0,none,0,rfl,rfl,by omega,by omega,by simp[wk0],HR,HV,br_ _ _⟩
 case round=>
  obtain⟨i,k,Av,cv,rfl,rfl,hi,hgk,hbl,hq,hI,hB0⟩:=hrel
  clear HV HR
  have hbw:=hI.out.bel
  by_cases hlt:i<len
  ·have hltz:(i:Int)< (len:Int):=by omega
   obtain⟨gk',rfl⟩: ∃g',gk=g'+1:=⟨gk - 1,by omega⟩
   obtain⟨g,off,rfl,hg,hBg,hks⟩:=HK.out (by omega)
   obtain⟨d0,d1,d2,e0,e1,e2,hd⟩:=(KidsC.below hbw hg hBg ks off hks).at i (by omega)
   obtain⟨tk,Ak,lak,cak,Kk,lkk,ckk,ed0,ed1,ed2⟩:=hd.shape
   subst ed0 ed1 ed2
   have hw1:Below wr.heap.size wr (wr.alloc (.cells #[.int .u8 tk,.slice Ak lak cak,.slice Kk lkk ckk] 43)):=(br_ _ _).alloc (lr_ _) _
   have ih:=HI.out (ks[i]'(by omega)) (List.getElem_mem _) B (.agg #[.int .u8 tk,.slice Ak lak cak,.slice Kk lkk ckk]) (wr.alloc (.cells #[.int .u8 tk,.slice Ak lak cak,.slice Kk lkk ckk] 43)) ⟨_,_,_,rfl,NdC.below hw1 _ _ _ _ hd⟩ ((hT.below hbw).below hw1)
   have hdrop:ks.drop i=ks[i]'(by omega)::ks.drop (i+1):=List.drop_eq_getElem_cons (by omega)
   obtain⟨RW,hRW⟩:=nm_ (writeF (ks[i]'(by omega)) outer)
   rw[hRW] at ih
   have IH2:=hd_ ih
   have HRW:=hd_ hRW
   have HDR:=hd_ hdrop
   clear ih hRW hdrop hd hks
   go_wp2_with fail
   refine IH2.out.mono ?_
   rintro e w2 ⟨hb2,hpost⟩
   clear IH2
   have hbx:Below wr.heap.size wr w2:=hw1.trans (hb2.mono hw1.size)
   clear hw1 hb2 e0 e1 e2
   cases RW with
   |no er=>
    simp only at hpost
    subst hpost
    have hR:R0=.no er:=by have h1:=hq.out;rw[HDR.out,writeL_no HRW.out] at h1;exact h1.symm
    subst hR
    have hE:RES=.no er:=HRES.out.symm
    subst hE
    unfold Up
    go_wp2
    exact⟨rfl,hbw.trans (hbx.mono hbw.size),rfl⟩
   |ok bb=>
    obtain⟨A2,c2,rfl,hbA,hlc,hfr⟩:=hpost
    have hq2:=hq.out
    rw[HDR.out,writeL_ok HRW.out] at hq2
    have hbb:=writeF_len HRW.out
    have hadd:=add_any (w.heap.size+1) k.last k.falls A2 bb.length c2 bb w2 (hI.out.rowAt hbx) hbA
    have hstep:=hI.out.step (Nat.le_succ _) hbx (A:=A2) (c:=c2) hbA (fun g off sp e=>by have:=hfr g off sp e;have:=hbx.size;simp at*;omega)
    have hA3:=hI.out.stepBys hbx (A:=A2) (c:=c2) (k.falls || behind k.last bb) hbA (fun g off sp e=>by have:=hfr g off sp e;have:=hbx.size;simp at*;omega)
    have hB3:Below (w.heap.size+1) W0 ((w2.setCell ⟨w.heap.size+1,1,none⟩ (.bool (k.falls || behind k.last bb))).setCell ⟨w.heap.size+1,0,none⟩ (.slice A2 bb.length c2)):=((hB0.trans (hbx.mono (by have:=hI.out.low;omega))).setCell (show w.heap.size+1≤(⟨w.heap.size+1,1,none⟩:Addr).block from lr_ _) _).setCell (show w.heap.size+1≤(⟨w.heap.size+1,0,none⟩:Addr).block from lr_ _) _
    have HAD:=hd_ hadd
    have HQ2:=hd_ hq2
    clear hadd hq2 hq hbA hfr hbx
    go_wp2_with fail
    refine HAD.out.mono ?_
    rintro e w3 ⟨rfl,rfl⟩
    clear HAD
    obtain⟨w3,hw3⟩:=nm_ ((w2.setCell ⟨w.heap.size+1,1,none⟩ (.bool (k.falls || behind k.last bb))).setCell ⟨w.heap.size+1,0,none⟩ (.slice A2 bb.length c2))
    rw[hw3] at hstep hB3 hA3⊢
    clear hw3
    by_cases hle:k.body.length≤65535
    ·have hlez:(k.body.length:Int)≤65535:=by omega
     obtain⟨v',w4,hrun,hown',hgr,hob⟩:=app_bytes w3 (w.heap.size+2) (.slice Av k.body.length cv) k.body.length _ hstep.own A2 bb.length c2 bb hA3 (by omega) hstep.low
     obtain⟨Av',cv',hv',hlo',hco',_⟩:=own_shape hown'
     have hgw:=hstep.grow (Nat.le_succ _) hA3.2.1 hown' hgr hob
     have hB4:Below (w.heap.size+1) W0 w4:=hB3.grown hgr (by have:=hstep.low;omega) (fun j hj=>by have:=(hstep.own.lt j hj).1;omega)
     have hKA:k.add bb=⟨k.body++bb,bb,k.falls || behind k.last bb⟩:=by unfold WK.add;rw[if_pos hle]
     rw[hKA] at HQ2
     subst hv'
     have HGW:=hd_ hgw
     have hi63:(i:Int)+1<9223372036854775808:=by omega
     have HN:=hd_ (ai_ hbl (ai_ hbb hle))
     clear hgw hstep hgr hob hown' hA3 hKA hbl hbb hle
     go_wp2_with (at_builtin;refine wpl_run rfl (.tmp 25) (.tmp 26) 34 rfl _ _ _ rfl rfl hrun ?_)
     go_wp2_with fail
     go_roundg gk'
     case measure=>omega
     case rel=>exact⟨i+1,⟨k.body++bb,bb,k.falls || behind k.last bb⟩,Av',cv',by push_cast;rfl,by rw[List.length_append],by omega,by omega,by have:=HN.out;simp;omega,HQ2,by rw[List.length_append];exact HGW,hB4⟩
    ·have hd:decide ((k.body.length:Int)≤65535)=false:=decide_eq_false (by omega)
     have hKA:k.add bb=⟨k.body,bb,k.falls || behind k.last bb⟩:=by unfold WK.add;rw[if_neg hle]
     rw[hKA] at HQ2
     have HGW:=hd_ hstep
     have hi63:(i:Int)+1<9223372036854775808:=by omega
     have HN:=hd_ (ai_ hbl (ai_ hbb hle))
     clear hstep hA3 hKA hbl hbb hle
     go_wp2
     go_roundg gk'
     case measure=>omega
     case rel=>exact⟨i+1,⟨k.body,bb,k.falls || behind k.last bb⟩,Av,cv,by push_cast;rfl,rfl,by omega,by omega,HN.out.1,HQ2,HGW,hB3⟩
  ·obtain rfl:i=len:=by omega
   have hltz: ¬(i:Int)< (i:Int):=by omega
   have hR:R0=.ok k:=by have h1:=hq.out;rw[show ks.drop i=[] from List.drop_eq_nil_of_le (by omega),writeL_nil] at h1;exact h1.symm
   subst hR
   have hbox2:=(hB0.block w.heap.size (by omega)).trans HBX.out
   obtain⟨L,ln,lc,hr,_⟩:=hI.out.row
   have hby:Bys wr Av k.body.length k.body:=Bys.own hI.out.own hI.out.fit
   obtain⟨Ao,co,hov,hlo,hco,hfo⟩:=own_shape hI.out.own
   obtain⟨-, -,rfl⟩:Ao=Av∧True∧co=cv:=by cases hov;exact⟨rfl,trivial,rfl⟩
   have m0:wr.cell? ⟨w.heap.size,0,none⟩=some (.int .u8 t):=by rw[ch_ hbox2];rfl
   have f1:wr.cell? ⟨w.heap.size+1,1,none⟩=some (.bool k.falls):=by rw[ch_ hr];rfl
   have hfresh: ∀g off sp,Av=some ⟨g,off,sp⟩→w.heap.size≤g:=fun g off sp e=>by
    have:=(hI.out.own.lt g (by subst e;rfl)).1
    omega
   obtain⟨fl,hfl⟩:=nm_ (k.falls)
   rw[hfl] at f1
   clear hq hI hr hov hfo
   by_cases ht:t=49
   ·subst ht
    cases fl with
    |true=>
     have hE:RES=.no 42:=HRES.out.symm.trans (if_pos ⟨rfl,hfl⟩)
     subst hE
     clear HRES
     go_wp2
     exact⟨rfl,hbw,rfl⟩
    |false=>
     have hE:RES=.ok k.body:=HRES.out.symm.trans (if_neg (by rw[hfl];simp))
     subst hE
     clear HRES
     go_wp2
     go_ret
     exact⟨hbw,Av,_,rfl,hby,⟨hlo,hco⟩,hfresh⟩
   ·have htb:(t==49)=false:=by simpa using ht
    have hE:RES=.ok k.body:=HRES.out.symm.trans (if_neg (fun h=>ht h.1))
    subst hE
    clear HRES
    go_wp2
    go_ret
    exact⟨hbw,Av,_,rfl,hby,⟨hlo,hco⟩,hfresh⟩
end Go.Proofs.YtkjkhoglkpepiaaGreatDoor.ndc
namespace Go.Proofs.YtkjkhoglkpepiaaGreatDoor.ndc
open Go.RowKit tlvc tlvd txc
theorem putF_pos {t:Int}{xs:List Int}(h:(putF t xs).2=0):0< (putF t xs).1.length:=by
 unfold putF at h⊢
 split at h
 ·exact absurd h (by decide)
 ·split at h
  ·exact absurd h (by decide)
  ·rename_i h1 h2
   rw[if_neg h1,if_neg h2]
   have hl:=put_len t xs
   have hh:=hdr_length (xs.length:Int)
   show 0< (putBytes t xs).length
   split at hh
   ·omega
   ·split at hh<;>omega
theorem written_step (t:Int)(b:List Int)(ks:List Nd)(outer:Nat)(IH: ∀n∈ks,Writes n (outer+1)):Writes (.mk t b ks) outer:=by
 intro B v w hv hT
 obtain⟨c0,c1,c2,rfl,hc⟩:=hv
 have hc':=hc
 unfold NdC at hc
 obtain⟨rfl,ht,⟨A,la,ca,rfl,hA1,hA2,hA3,_⟩,K,ck,rfl,hK1,hK2,_⟩:=hc
 have hK9:ck≤9223372036854775807:=by unfold maxLen at hK2;omega
 obtain⟨len,hlen⟩:=nm_ (ks.length)
 rw[hlen] at hc' hK1⊢
 obtain⟨W0,hW0⟩:=nm_ (w.alloc (.cells #[.int .u8 t,.slice A la ca,.slice K len ck] 43))
 have hb0:Below w.heap.size w W0:=by rw[←hW0];exact(br_ _ _).alloc (lr_ _) _
 have hz0:W0.heap.size=w.heap.size+1:=by rw[←hW0];simp
 have hbox:W0.heap[w.heap.size]? =some (.cells #[.int .u8 t,.slice A la ca,.slice K len ck] 43):=by rw[←hW0];exact heap_new_ _ _
 have hal:=alone_any t A la ca b outer W0 ht (hA3.below hb0) hA1 hA2 (hT.below hb0)
 obtain⟨RES,hRES⟩:=nm_ (writeF (.mk t b ks) outer)
 rw[hRES]
 unfold writeF at hRES
 rw[hlen] at hRES
 have hou:aloneF t b outer=0→outer<32:=fun ho=>by
  rcases Nat.lt_or_ge outer 32 with h |h
  ·exact h
  ·unfold aloneF at ho;rw[if_pos h] at ho;cases ho
 obtain⟨al,hal1⟩:=nm_ (aloneF t b outer)
 rw[hal1] at hal hRES hou
 have n0:W0.cell? ⟨w.heap.size,0,none⟩=some (.int .u8 t):=by rw[ch_ hbox];rfl
 have n1:W0.cell? ⟨w.heap.size,1,none⟩=some (.slice A la ca):=by rw[ch_ hbox];rfl
 have HAL:=hd_ hal
 have HRES:=hd_ hRES
 have HI:=hd_ IH
 have HC:=hd_ hc'
 have HBX:=hd_ hbox
 have HB0:=hd_ hb0
 have HA3:=hd_ hA3
 clear hal hRES IH hc' hbox hb0 hal1 hA3
 go_enter Tryz.func28,Tryz.ntmps28
 go_wp2_with fail
 clear hW0 n0 n1
 refine HAL.out.mono ?_
 rintro e w1 ⟨rfl,hb1⟩
 clear HAL
 have hbx1:=(hb1.block w.heap.size (by omega)).trans HBX.out
 have m0:w1.cell? ⟨w.heap.size,0,none⟩=some (.int .u8 t):=by rw[ch_ hbx1];rfl
 have m1:w1.cell? ⟨w.heap.size,1,none⟩=some (.slice A la ca):=by rw[ch_ hbx1];rfl
 have m2:w1.cell? ⟨w.heap.size,2,none⟩=some (.slice K len ck):=by rw[ch_ hbx1];rfl
 have hB1:Below w.heap.size w w1:=HB0.out.trans (hb1.mono (by omega))
 have HB1:=hd_ hB1
 clear hb1
 by_cases ha:al=0
 ·subst ha
  have hou':=hou rfl
  have hmis:=misplaced_any (B:=B) t b ks (.agg #[.int .u8 t,.slice A la ca,.slice K len ck]) w1 ⟨_,_,_,rfl,by rw[←hlen] at HC⊢;exact NdC.below hB1 _ _ _ _ HC.out⟩
  obtain⟨mi,hmi⟩:=nm_ (misF t b ks.length)
  rw[hmi] at hmis
  have HM:=hd_ hmis
  clear hmis
  go_wp2_with fail
  refine HM.out.mono ?_
  rintro e w2 ⟨rfl,hb2⟩
  clear HM
  have hB2:Below w.heap.size w w2:=hB1.trans (hb2.mono hB1.size)
  have hbx2:=(hb2.block w.heap.size (by have:=hB1.size;have:=HB0.out.size;have:=(Array.getElem?_eq_some_iff.1 hbx1).1;omega)).trans hbx1
  have q0:w2.cell? ⟨w.heap.size,0,none⟩=some (.int .u8 t):=by rw[ch_ hbx2];rfl
  have q1:w2.cell? ⟨w.heap.size,1,none⟩=some (.slice A la ca):=by rw[ch_ hbx2];rfl
  have q2:w2.cell? ⟨w.heap.size,2,none⟩=some (.slice K len ck):=by rw[ch_ hbx2];rfl
  have HB2:=hd_ hB2
  clear hb2
  rw[hlen] at hmi
  have hmiv:=hmi
  clear hmi
  cases mi with
  |true=>
   have hE:RES=.no 43:=HRES.out.symm.trans ((if_neg (by simp)).trans (if_pos hmiv))
   subst hE
   clear HRES
   go_wp2
   exact⟨rfl,hB2,rfl⟩
  |false=>
   have hr1:=HRES.out.symm.trans ((if_neg (by simp)).trans (if_neg (by rw[hmiv];simp)))
   have HR1:=hd_ hr1
   have hcm:=compound_any t w2 ht
   obtain⟨cp,hcp⟩:=nm_ (compB t)
   rw[hcp] at hcm
   have HCM:=hd_ hcm
   clear hr1 HRES hcm
   have hby2:=HA3.out.below hB2
   have HBY:=hd_ hby2
   clear hby2
   cases cp with
   |false=>
    go_wp2_with fail
    refine HCM.out.mono ?_
    rintro e w3 ⟨rfl,rfl⟩
    clear HCM
    have hp:=tlvd.put_all t A la ca b w2 ht HBY.out
    have hE:putW t b=RES:=(HR1.out.trans (if_neg (by rw[hcp];simp))).symm
    unfold putW at hE
    obtain⟨er,her⟩:=nm_ ((putF t b).2)
    obtain⟨ys,hys⟩:=nm_ ((putF t b).1)
    have hpos:er=0→0<ys.length:=fun h=>by rw[←hys];exact putF_pos (her.trans h)
    rw[her,hys] at hp
    rw[her,hys] at hE
    have HP:=hd_ hp
    have HE:=hd_ hE
    clear hp hE her hys
    go_wp2_with fail
    refine HP.out.mono ?_
    rintro e w9 ⟨A9,c9,rfl,hb9,hc9,hf9,hB9⟩
    clear HP
    have hBz:=hB2.trans (hB9.mono hB2.size)
    have hsz:=hB2.size
    by_cases her:er=0
    ·subst her
     have hE:RES=.ok ys:=HE.out.symm.trans (if_pos rfl)
     subst hE
     clear HE
     go_wp2
     go_ret
     exact⟨hBz,A9,c9,rfl,hb9,hc9,fun g off sp e=>by
      rcases Nat.eq_zero_or_pos ys.length with h0 |h0
      ·have:=(by first |exact hpos rfl |exact hpos trivial:0<ys.length);omega
      ·obtain⟨b',off',e',_⟩:=hb9.2.2 h0
       have:=hf9 b' off' e'
       rw[e'] at e;cases e;omega⟩
    ·have hne:(er==0)=false:=by simpa using her
     have hE:RES=.no er:=HE.out.symm.trans (if_neg her)
     subst hE
     clear HE
     go_wp2
     exact⟨rfl,hBz,rfl⟩
   |true=>
    have hkk:=kids_any t b ks (outer+1) HI.out B (.agg #[.int .u8 t,.slice A la ca,.slice K len ck]) w2 ⟨_,_,_,rfl,by rw[←hlen] at HC⊢;exact NdC.below hB2 _ _ _ _ HC.out⟩ (hT.below hB2)
    have hr2:=HR1.out.trans (if_pos hcp)
    obtain⟨kr,hkr⟩:=nm_ (kresF t (writeL ks (outer+1) wk0))
    rw[hkr] at hkk hr2
    rw[show((outer+1:Nat):Int)=(outer:Int)+1 from by push_cast;rfl] at hkk
    have HKK:=hd_ hkk
    have HR2:=hd_ hr2
    clear hkk hr2 hkr HR1
    go_wp2_with fail
    refine HCM.out.mono ?_
    rintro e w3 ⟨rfl,rfl⟩
    clear HCM
    go_wp2_with fail
    refine HKK.out.mono ?_
    rintro e w4 ⟨hb4,hpost⟩
    clear HKK
    have hB4:Below w.heap.size w w4:=hB2.trans (hb4.mono hB2.size)
    have hbx4:=(hb4.block w.heap.size (by have:=(Array.getElem?_eq_some_iff.1 hbx2).1;omega)).trans hbx2
    have p0:w4.cell? ⟨w.heap.size,0,none⟩=some (.int .u8 t):=by rw[ch_ hbx4];rfl
    clear hb4
    cases kr with
    |no er=>
     simp only at hpost
     subst hpost
     have hE:RES=.no er:=HR2.out
     subst hE
     clear HR2
     unfold Up
     go_wp2
     exact⟨rfl,hB4,rfl⟩
    |ok bd=>
     obtain⟨A5,c5,rfl,hb5,hc5,hf5⟩:=hpost
     have HB5:=hd_ hb5
     clear hb5
     have hp:=tlvd.put_all t A5 bd.length c5 bd w4 ht HB5.out
     have hE:putW t bd=RES:=HR2.out.symm
     unfold putW at hE
     obtain⟨er,her⟩:=nm_ ((putF t bd).2)
     obtain⟨ys,hys⟩:=nm_ ((putF t bd).1)
     have hpos:er=0→0<ys.length:=fun h=>by rw[←hys];exact putF_pos (her.trans h)
     rw[her,hys] at hp
     rw[her,hys] at hE
     have HP:=hd_ hp
     have HE:=hd_ hE
     clear hp hE her hys
     go_wp2_with fail
     refine HP.out.mono ?_
     rintro e w9 ⟨A9,c9,rfl,hb9,hc9,hf9,hB9⟩
     clear HP
     have hBz:=hB4.trans (hB9.mono hB4.size)
     have hsz:=hB4.size
     by_cases her:er=0
     ·subst her
      have hE:RES=.ok ys:=HE.out.symm.trans (if_pos rfl)
      subst hE
      clear HE
      go_wp2
      go_ret
      exact⟨hBz,A9,c9,rfl,hb9,hc9,fun g off sp e=>by
       rcases Nat.eq_zero_or_pos ys.length with h0 |h0
       ·have:=(by first |exact hpos rfl |exact hpos trivial:0<ys.length);omega
       ·obtain⟨b',off',e',_⟩:=hb9.2.2 h0
        have:=hf9 b' off' e'
        rw[e'] at e;cases e;omega⟩
     ·have hne:(er==0)=false:=by simpa using her
      have hE:RES=.no er:=HE.out.symm.trans (if_neg her)
      subst hE
      clear HE
      go_wp2
      exact⟨rfl,hBz,rfl⟩
 ·have hne:(al==0)=false:=by simpa using ha
  have hE:RES=.no al:=HRES.out.symm.trans (if_pos ha)
  subst hE
  clear HRES
  go_wp2_with fail
  exact⟨rfl,hB1,rfl⟩
theorem writes_all: ∀(m:Nat) (n:Nd) (outer:Nat),szN n≤m→Writes n outer
 |0,.mk t b ks,outer,h=>absurd h (by show¬szL ks+1≤0;omega)
 |m+1,.mk t b ks,outer,h=>written_step t b ks outer fun n hn=>writes_all m n (outer+1) (by have h1:=szL_mem hn;have h2:szL ks+1≤m+1:=h;omega)
theorem written_any (n:Nd)(outer:Nat):Writes n outer:=writes_all _ n outer (lr_ _)
end Go.Proofs.YtkjkhoglkpepiaaGreatDoor.ndc
namespace Go.Proofs.YtkjkhoglkpepiaaGreatDoor.ndc
open Go.RowKit tlvc tlvd txc
def W1 (W:World)(bb:Nat)(r:WR)(e:Ending)(w':World):Prop:=
 match r with
 | .no er=>e=.panicked (Up (.iface 35 (.int .i64 er)))∧Below W.heap.size W w'
 | .ok b=>e=.returned (.tuple #[])∧∃A c W2,Below W.heap.size W W2∧w'=W2.setCell ⟨bb,0,none⟩ (.slice A b.length c)∧Bys W2 A b.length b∧(b.length≤c∧c≤maxLen)∧∀g off sp,A=some ⟨g,off,sp⟩→W.heap.size≤g
theorem print1_any (nn bb:Nat)(n:Nd)(B:Nat→Prop)(c0 c1 c2:Value)(W:World)(hnd:NdC B W n c0 c1 c2)(hT:Tabs W)
 (hn:W.heap[nn]? =some (.cells #[c0,c1,c2] 43)) (hb:W.heap[bb]? =some (.cells #[.slice none 0 0] 34)):
 Calls Tryz.prog 27 #[.pointer (some ⟨nn,0,none⟩),.pointer (some ⟨bb,0,none⟩)] W (W1 W bb (writeF n 0)):=by
 have hra:=written_any n 0 B (.agg #[c0,c1,c2]) W ⟨_,_,_,rfl,hnd⟩ hT
 obtain⟨R,hR⟩:=nm_ (writeF n 0)
 rw[hR] at hra⊢
 rw[show((0:Nat):Int)=0 from rfl] at hra
 obtain⟨tk,Ak,lak,cak,Kk,lkk,ckk,ec0,ec1,ec2⟩:=hnd.shape
 subst ec0 ec1 ec2
 have HR:=hd_ hra
 have n0:W.cell? ⟨nn,0,none⟩=some (.int .u8 tk):=by rw[ch_ hn];rfl
 have n1:W.cell? ⟨nn,1,none⟩=some (.slice Ak lak cak):=by rw[ch_ hn];rfl
 have n2:W.cell? ⟨nn,2,none⟩=some (.slice Kk lkk ckk):=by rw[ch_ hn];rfl
 have hbl:bb<W.heap.size:=(Array.getElem?_eq_some_iff.1 hb).1
 clear hra hR hnd hn
 go_enter Tryz.func27,Tryz.ntmps27
 go_wp2_with fail
 refine HR.out.mono ?_
 rintro e W2 ⟨hb2,hpost⟩
 clear HR
 cases R with
 |no er=>
  simp only at hpost
  subst hpost
  unfold Up
  go_wp2
  exact⟨rfl,rfl,hb2⟩
 |ok b=>
  obtain⟨A,c,rfl,h1,h2,h3⟩:=hpost
  have hn2:=(hb2.block bb hbl).trans hb
  have d0:W2.cell? ⟨bb,0,none⟩=some (.slice none 0 0):=by rw[ch_ hn2];rfl
  have g0:W2.frozen? ⟨bb,0,none⟩=false:=fh_ hn2 _
  have HE:=hd_ (ai_ hb2 (ai_ h1 (ai_ h2 h3)))
  clear h1 h2 h3 hb2 hn2
  go_wp2
  first |refine bodyPost_ret (results_none rfl _ _ _) rfl ?_ |go_end0
  exact⟨rfl,A,c,W2,HE.out.1,rfl,HE.out.2⟩
def PrPost (w:World)(r:WR)(e:Ending)(w':World):Prop:=
 Below w.heap.size w w'∧match r with
 | .no er=>e=.returned (.tuple #[.slice none 0 0,.int .i64 er])
 | .ok b=>∃A c,e=.returned (.tuple #[.slice A b.length c,.int .i64 0])∧Bys w' A b.length b∧(b.length≤c∧c≤maxLen)∧∀g off sp,A=some ⟨g,off,sp⟩→w.heap.size≤g
theorem print_any (n:Nd)(B:Nat→Prop)(v:Value)(w:World)(hv:NdV B w n v)(hT:Tabs w):
 Calls Tryz.prog 11 #[v] w (PrPost w (writeF n 0)):=by
 obtain⟨c0,c1,c2,rfl,hnd⟩:=hv
 have hmf: ∀(fn:Fn) (first cap:Array Value) (w:World),(Instr.makeFunc fn first cap).run Tryz.prog w=.ok (.func fn first cap) w:=fun _ _ _ _=>rfl
 obtain⟨tk,Ak,lak,cak,Kk,lkk,ckk,ec0,ec1,ec2⟩:=hnd.shape
 subst ec0 ec1 ec2
 obtain⟨w0,hw0⟩:=nm_ ((w.alloc (.cells #[.int .u8 tk,.slice Ak lak cak,.slice Kk lkk ckk] 43)).alloc (.cells #[.slice none 0 0] 34))
 have hz:w0.heap.size=w.heap.size+2:=by rw[←hw0];simp
 have hbw:Below w.heap.size w w0:=by rw[←hw0];exact((br_ _ _).alloc (lr_ _) _).alloc (by simp) _
 have q0:w0.heap[w.heap.size]? =some (.cells #[.int .u8 tk,.slice Ak lak cak,.slice Kk lkk ckk] 43):=by rw[←hw0,heap_old_ _ _ (by simp)];exact heap_new_ _ _
 have q1:w0.heap[w.heap.size+1]? =some (.cells #[.slice none 0 0] 34):=by
  rw[←hw0]
  have:=heap_new_ (w.alloc (.cells #[.int .u8 tk,.slice Ak lak cak,.slice Kk lkk ckk] 43)) (.cells #[.slice none 0 0] 34)
  rwa[show(w.alloc (.cells #[.int .u8 tk,.slice Ak lak cak,.slice Kk lkk ckk] 43)).heap.size=w.heap.size+1 by simp] at this
 have hent:=enters_of Tryz.func27 (by kernel_rfl) rfl
 have inner: ∀W,Below w0.heap.size w0 W→Calls Tryz.prog 27 #[.pointer (some ⟨w.heap.size,0,none⟩),.pointer (some ⟨w.heap.size+1,0,none⟩)] W (W1 W (w.heap.size+1) (writeF n 0)):=fun W hW=>
  print1_any w.heap.size (w.heap.size+1) n B _ _ _ W (NdC.below (hbw.trans (hW.mono hbw.size)) _ _ _ _ hnd) (hT.below (hbw.trans (hW.mono hbw.size)))
   ((hW.block _ (by omega)).trans q0) ((hW.block _ (by omega)).trans q1)
 obtain⟨R,hR⟩:=nm_ (writeF n 0)
 rw[hR] at inner⊢
 cases R with
 |no er=>
  have hcg:=caught_errno 27 #[.pointer (some ⟨w.heap.size,0,none⟩),.pointer (some ⟨w.heap.size+1,0,none⟩)] w0 er (fun w'=>Below w0.heap.size w0 w') hent
   (fun W hW hs=>(inner W hW).mono fun e w' h=>⟨h.1,hW.trans (h.2.mono hW.size),h.2.size,fun g h1 h2=>h.2.block g (by omega)⟩)
  have HC:=hd_ hcg
  clear hcg inner hR hnd
  go_enter Tryz.func11,Tryz.ntmps11
  go_wp2_with fail
  refine HC.out.mono ?_
  rintro e w4 ⟨rfl,w3,hb3,hz3,hb4⟩
  have hB4:Below w0.heap.size w0 w4:=hb3.trans hb4
  have m1:=(hB4.block (w.heap.size+1) (by omega)).trans q1
  have hBw:=hbw.trans (hB4.mono hbw.size)
  clear hw0 q0 q1 hb3 hb4 hB4 HC hbw
  have d0:w4.cell? ⟨w.heap.size+1,0,none⟩=some (.slice none 0 0):=by rw[ch_ m1];rfl
  clear m1
  go_wp2_with fail
  go_ret2
  exact⟨hBw,rfl⟩
 |ok b=>
  have hcg:=caught_ok 27 #[.pointer (some ⟨w.heap.size,0,none⟩),.pointer (some ⟨w.heap.size+1,0,none⟩)] w0 (fun w'=>∃A c,w'.heap[w.heap.size+1]? =some (.cells #[.slice A b.length c] 34)∧Bys w' A b.length b∧(b.length≤c∧c≤maxLen)∧(0<b.length→∀g off sp,A=some ⟨g,off,sp⟩→w0.heap.size+2≤g)∧(∀g off sp,A=some ⟨g,off,sp⟩→w.heap.size≤g)∧Below w.heap.size w w') hent
   (fun W hW hs=>(inner W hW).mono fun e w' h=>by
     obtain⟨he,A,c,W2,hb2,rfl,hby,hc,hfr⟩:=h
     have z1:=hb2.size
     have u1:=(hb2.block (w.heap.size+1) (by omega)).trans ((hW.block (w.heap.size+1) (by omega)).trans q1)
     have far: ∀g,g≠w.heap.size+1→(W2.setCell ⟨w.heap.size+1,0,none⟩ (.slice A b.length c)).heap[g]? =W2.heap[g]? :=fun g hg=>by
      rw[set_heap_other _ _ _ _ _ hg]
     have sz:(W2.setCell ⟨w.heap.size+1,0,none⟩ (.slice A b.length c)).heap.size=W2.heap.size:=by rw[set_size]
     refine⟨he,⟨A,c,?_,?_,hc,fun _ g off sp e=>by have:=hfr g off sp e;omega,fun g off sp e=>by have:=hfr g off sp e;omega,?_⟩,by rw[sz];exact hb2.size,fun g h1 h2=>(far g (by omega)).trans (hb2.block g (by omega))⟩
     ·exact set_heap _ _ 0 _ _ _ _ u1
     ·exact bys_stays (B:=fun g=>W.heap.size≤g) ⟨by rw[sz];exact lr_ _,fun p hp _=>cell_same (far p.block (by have hp:W.heap.size≤p.block:=hp;omega))⟩ hby (fun _ g off sp e=>hfr g off sp e)
     ·have hB:=(hbw.trans (hW.mono hbw.size)).trans (hb2.mono (by have:=hW.size;have:=hbw.size;omega))
      exact hB.setCell (show w.heap.size≤(⟨w.heap.size+1,0,none⟩:Addr).block from by show _≤w.heap.size+1;omega) _)
  have HC:=hd_ hcg
  clear hcg inner hR hnd
  go_enter Tryz.func11,Tryz.ntmps11
  go_wp2_with fail
  refine HC.out.mono ?_
  rintro e w4 ⟨rfl,w3,⟨A,c,u1,hby,hc,hfr,hfr2,hB3⟩,hz3,hb4,hfar⟩
  have m1:=(hb4.block (w.heap.size+1) (by omega)).trans u1
  have hBw:=hB3.trans (hb4.mono hbw.size)
  have hb5:Bys w4 A b.length b:=bys_stays (B:=fun g=>w0.heap.size+2≤g) ⟨hb4.size,fun p hp _=>hfar p hp⟩ hby hfr
  have d0:w4.cell? ⟨w.heap.size+1,0,none⟩=some (.slice A b.length c):=by rw[ch_ m1];rfl
  clear hw0 q0 q1 hb4 HC hbw hB3 hby hfr m1 hfar u1
  go_wp2_with fail
  go_ret2
  exact⟨hBw,A,c,rfl,hb5,hc,hfr2⟩
def errW:WR→Int
 | .no e=>e
 | .ok _=>0
theorem check_any (n:Nd)(B:Nat→Prop)(v:Value)(w:World)(hv:NdV B w n v)(hT:Tabs w):
 Calls Tryz.prog 101 #[v] w fun e w'=>e=.returned (.int .i64 (errW (writeF n 0)))∧Below w.heap.size w w':=by
 obtain⟨c0,c1,c2,rfl,hnd⟩:=hv
 obtain⟨tk,Ak,lak,cak,Kk,lkk,ckk,ec0,ec1,ec2⟩:=hnd.shape
 subst ec0 ec1 ec2
 have hbw:Below w.heap.size w (w.alloc (.cells #[.int .u8 tk,.slice Ak lak cak,.slice Kk lkk ckk] 43)):=(br_ _ _).alloc (lr_ _) _
 have hp:=print_any n B (.agg #[.int .u8 tk,.slice Ak lak cak,.slice Kk lkk ckk]) (w.alloc (.cells #[.int .u8 tk,.slice Ak lak cak,.slice Kk lkk ckk] 43)) ⟨_,_,_,rfl,NdC.below hbw _ _ _ _ hnd⟩ (hT.below hbw)
 obtain⟨R,hR⟩:=nm_ (writeF n 0)
 rw[hR] at hp⊢
 have HP:=hd_ hp
 clear hp hR hnd
 go_enter Tryz.func101,Tryz.ntmps101
 go_wp2_with fail
 refine HP.out.mono ?_
 rintro e w2 ⟨hb2,hpost⟩
 clear HP
 have hB:=hbw.trans (hb2.mono hbw.size)
 clear hb2 hbw
 cases R with
 |no er=>
  simp only at hpost
  subst hpost
  go_wp2
  go_ret
  exact⟨rfl,hB⟩
 |ok b=>
  obtain⟨A,c,rfl,_⟩:=hpost
  go_wp2
  go_ret
  exact⟨rfl,hB⟩
end Go.Proofs.YtkjkhoglkpepiaaGreatDoor.ndc
