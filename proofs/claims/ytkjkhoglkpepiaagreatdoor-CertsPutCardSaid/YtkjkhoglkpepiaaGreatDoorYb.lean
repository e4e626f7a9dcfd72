/- The program's checked, and what its makers of nodes share: a -/
import Derived.Test.YtkjkhoglkpepiaaGreatDoorYa
import Derived.Deep.RegionLaw
set_option maxRecDepth 100000
set_option maxHeartbeats 8000000
set_option linter.unusedVariables false
set_option linter.unusedSimpArgs false
namespace Go.Proofs.YtkjkhoglkpepiaaGreatDoor.nmc
open Go.RowKit tlvc tlvd ndc txc txm intc intm
theorem below_new (w:World)(o:Obj):Below w.heap.size w (w.alloc o):=(br_ _ _).alloc (lr_ _) _
theorem size_new (w:World)(o:Obj):(w.alloc o).heap.size=w.heap.size+1:=by simp
theorem below_then {B:Nat}{w w1 w2:World}(h:Below B w w1)(k:Below w1.heap.size w1 w2)(hB:B≤w.heap.size):Below B w w2:=h.trans (k.mono (Nat.le_trans hB h.size))
theorem drew_below {w w':World}(h:Below w.drew.heap.size w.drew w'):Below w.heap.size w w':=((br_ w.heap.size w).drew).trans h
theorem heap_is {W:World}{o:Obj}{k:Nat}(h:k=W.heap.size):(W.alloc o).heap[k]? =some o:=by subst h;exact heap_new_ _ _

def set3 (W:World)(b:Nat)(y0 y1 y2:Value):World:=((W.setCell ⟨b,0,none⟩ y0).setCell ⟨b,1,none⟩ y1).setCell ⟨b,2,none⟩ y2
theorem set3_size (W:World)(b:Nat)(y0 y1 y2:Value):(set3 W b y0 y1 y2).heap.size=W.heap.size:=by unfold set3;rw[set_size,set_size,set_size]
theorem set3_other (W:World)(b:Nat)(y0 y1 y2:Value){g:Nat}(h:g≠b):(set3 W b y0 y1 y2).heap[g]? =W.heap[g]? :=by unfold set3;rw[set_heap_other _ _ _ _ _ h,set_heap_other _ _ _ _ _ h,set_heap_other _ _ _ _ _ h]
theorem set3_box {W:World}{b:Nat}{x0 x1 x2:Value}{T:TypeId}{fr:Nat × Nat}(h:W.heap[b]? =some (.cells #[x0,x1,x2] T fr))(y0 y1 y2:Value):(set3 W b y0 y1 y2).heap[b]? =some (.cells #[y0,y1,y2] T fr):=
  set_heap _ _ _ _ _ _ _ (set_heap _ _ _ _ _ _ _ (set_heap _ _ _ _ _ _ _ h))
theorem set3_below {B b:Nat}{w W:World}(hb:B≤b)(h:Below B w W)(y0 y1 y2:Value):Below B w (set3 W b y0 y1 y2):=
  ((h.setCell (p:=⟨b,0,none⟩) hb y0).setCell (p:=⟨b,1,none⟩) hb y1).setCell (p:=⟨b,2,none⟩) hb y2
theorem res3 {w W:World}{b:Nat}{x0 x1 x2 y0 y1 y2:Value}{T:TypeId}{fr:Nat × Nat}(hb:w.heap.size≤b)(hB:Below w.heap.size w W)(hres:W.heap[b]? =some (.cells #[x0,x1,x2] T fr)):
    (((W.setCell ⟨b,0,none⟩ y0).setCell ⟨b,1,none⟩ y1).setCell ⟨b,2,none⟩ y2).cell? ⟨b,0,none⟩=some y0∧(((W.setCell ⟨b,0,none⟩ y0).setCell ⟨b,1,none⟩ y1).setCell ⟨b,2,none⟩ y2).cell? ⟨b,1,none⟩=some y1∧(((W.setCell ⟨b,0,none⟩ y0).setCell ⟨b,1,none⟩ y1).setCell ⟨b,2,none⟩ y2).cell? ⟨b,2,none⟩=some y2∧
      Below w.heap.size w (((W.setCell ⟨b,0,none⟩ y0).setCell ⟨b,1,none⟩ y1).setCell ⟨b,2,none⟩ y2):=by
  have hbox:=set3_box hres y0 y1 y2
  exact⟨(ch_ (w:=set3 W b y0 y1 y2) hbox _).trans rfl,(ch_ (w:=set3 W b y0 y1 y2) hbox _).trans rfl,(ch_ (w:=set3 W b y0 y1 y2) hbox _).trans rfl,set3_below hb hB y0 y1 y2⟩
theorem res3_nd {W:World}{b:Nat}{y0 y1 y2:Value}{n:Nd}{c0 c1 c2:Value}{S:Nat→Prop}(hS: ∀g,S g→g≠b)(h:NdC S W n c0 c1 c2):
    NdC S (((W.setCell ⟨b,0,none⟩ y0).setCell ⟨b,1,none⟩ y1).setCell ⟨b,2,none⟩ y2) n c0 c1 c2:=
  NdC.stays (w':=set3 W b y0 y1 y2) ⟨by rw[set3_size];exact lr_ _,fun p hp _=>cell_same (set3_other _ _ _ _ _ (hS _ hp))⟩ _ _ _ _ h

def NPost (S:Nat→Prop)(w:World)(r:Option Nd)(e:Ending)(w':World):Prop:=
  Below w.heap.size w w'∧∃t A la ca K lk ck er,e=.returned (.tuple #[.agg #[.int .u8 t,.slice A la ca,.slice K lk ck],.int .i64 er])∧
    match r with
    |none=>er≠0
    |some n=>er=0∧NdC S w' n (.int .u8 t) (.slice A la ca) (.slice K lk ck)
theorem checked_any (n:Nd)(S:Nat→Prop)(c0 c1 c2:Value)(w:World)(hn:NdC S w n c0 c1 c2)(hS: ∀g,S g→g<w.heap.size)(hT:Tabs w):
    Calls Tryz.prog 51 #[.agg #[c0,c1,c2]] w (NPost S w (checkF n)):=by
  obtain⟨tk,Ak,lak,cak,Kk,lkk,ckk,ec0,ec1,ec2⟩:=hn.shape
  subst ec0 ec1 ec2
  obtain⟨W0,hW0⟩:=nm_ ((w.alloc (.cells #[.int .u8 tk,.slice Ak lak cak,.slice Kk lkk ckk] 43)).alloc (.cells #[.int .u8 0,.slice none 0 0,.slice none 0 0] 43))
  have hb0:Below w.heap.size w W0:=by rw[←hW0];exact(below_new _ _).alloc (by simp) _
  have p0:W0.heap[w.heap.size+1]? =some (.cells #[.int .u8 0,.slice none 0 0,.slice none 0 0] 43):=by rw[←hW0];exact heap_is (by simp)
  have q0:W0.heap[w.heap.size]? =some (.cells #[.int .u8 tk,.slice Ak lak cak,.slice Kk lkk ckk] 43):=by rw[←hW0,heap_old_ _ _ (by simp)];exact heap_new_ _ _
  have hz0:W0.heap.size=w.heap.size+2:=by rw[←hW0];simp
  have hck: ∀W,Below w.heap.size w W→Calls Tryz.prog 101 #[.agg #[.int .u8 tk,.slice Ak lak cak,.slice Kk lkk ckk]] W fun e w'=>e=.returned (.int .i64 (errW (writeF n 0)))∧Below W.heap.size W w':=fun W hW=>
    ndc.check_any n S _ W ⟨_,_,_,rfl,NdC.below hW _ _ _ _ hn⟩ (hT.below hW)
  obtain⟨R,hR⟩:=nm_ (checkF n)
  rw[hR]
  unfold checkF at hR
  obtain⟨er,her⟩:=nm_ (errW (writeF n 0))
  rw[her] at hck hR
  obtain⟨t0,t1,t2⟩:W0.cell? ⟨w.heap.size,0,none⟩=some (.int .u8 tk)∧W0.cell? ⟨w.heap.size,1,none⟩=some (.slice Ak lak cak)∧W0.cell? ⟨w.heap.size,2,none⟩=some (.slice Kk lkk ckk):=⟨(ch_ q0 _).trans rfl,(ch_ q0 _).trans rfl,(ch_ q0 _).trans rfl⟩
  obtain⟨s0,s1,s2⟩:W0.cell? ⟨w.heap.size+1,0,none⟩=some (.int .u8 0)∧W0.cell? ⟨w.heap.size+1,1,none⟩=some (.slice none 0 0)∧W0.cell? ⟨w.heap.size+1,2,none⟩=some (.slice none 0 0):=⟨(ch_ p0 _).trans rfl,(ch_ p0 _).trans rfl,(ch_ p0 _).trans rfl⟩
  have f0:=fh_ p0 0
  have f1:=fh_ p0 1
  have f2:=fh_ p0 2
  have hcA:=hck W0.drew hb0.drew
  have hW1:=res3 (b:=w.heap.size+1) (y0:=.int .u8 tk) (y1:=.slice Ak lak cak) (y2:=.slice Kk lkk ckk) (by omega) hb0 p0
  have hcB:=hck (((W0.setCell ⟨w.heap.size+1,0,none⟩ (.int .u8 tk)).setCell ⟨w.heap.size+1,1,none⟩ (.slice Ak lak cak)).setCell ⟨w.heap.size+1,2,none⟩ (.slice Kk lkk ckk)).drew hW1.2.2.2.drew
  have hA2: ∀w2,Below W0.drew.heap.size W0.drew w2→w2.heap[w.heap.size+1]? =some (.cells #[.int .u8 0,.slice none 0 0,.slice none 0 0] 43)∧w2.heap[w.heap.size]? =some (.cells #[.int .u8 tk,.slice Ak lak cak,.slice Kk lkk ckk] 43)∧Below w.heap.size w w2∧Below w.heap.size w (set3 w2 (w.heap.size+1) (.int .u8 tk) (.slice Ak lak cak) (.slice Kk lkk ckk))∧NdC S (set3 w2 (w.heap.size+1) (.int .u8 tk) (.slice Ak lak cak) (.slice Kk lkk ckk)) n (.int .u8 tk) (.slice Ak lak cak) (.slice Kk lkk ckk):=fun w2 hb2=>by
    have hb2:=drew_below hb2
    have hbw:=below_then hb0 hb2 (lr_ _)
    exact⟨(hb2.block _ (by omega)).trans p0,(hb2.block _ (by omega)).trans q0,hbw,set3_below (by omega) hbw _ _ _,res3_nd (fun g hg e=>by have:=hS g hg;omega) (NdC.below hbw _ _ _ _ hn)⟩
  have hB2: ∀w2,Below (((W0.setCell ⟨w.heap.size+1,0,none⟩ (.int .u8 tk)).setCell ⟨w.heap.size+1,1,none⟩ (.slice Ak lak cak)).setCell ⟨w.heap.size+1,2,none⟩ (.slice Kk lkk ckk)).drew.heap.size (((W0.setCell ⟨w.heap.size+1,0,none⟩ (.int .u8 tk)).setCell ⟨w.heap.size+1,1,none⟩ (.slice Ak lak cak)).setCell ⟨w.heap.size+1,2,none⟩ (.slice Kk lkk ckk)).drew w2→w2.heap[w.heap.size+1]? =some (.cells #[.int .u8 tk,.slice Ak lak cak,.slice Kk lkk ckk] 43)∧Below w.heap.size w w2∧NdC S w2 n (.int .u8 tk) (.slice Ak lak cak) (.slice Kk lkk ckk):=fun w2 hb2=>by
    have hb2:=drew_below hb2
    have hbw:=below_then hW1.2.2.2 hb2 (lr_ _)
    exact⟨(hb2.block _ (by have:=set3_size W0 (w.heap.size+1) (.int .u8 tk) (.slice Ak lak cak) (.slice Kk lkk ckk);unfold set3 at this;rw[this];omega)).trans (set3_box p0 _ _ _),hbw,NdC.below hbw _ _ _ _ hn⟩
  have HA:=hd_ (ai_ hcA hA2)
  have HB:=hd_ (ai_ hcB hB2)
  have HR:=hd_ hR
  clear hck hn hS p0 q0 hz0 hb0 her hR hT hcA hcB hA2 hB2 hW1
  go_enter Tryz.func51,Tryz.ntmps51
  go_wp2_with fail
  go_region_law (first | (go_simp;go_at_call 101;refine HA.out.1.mono ?_;rintro e w2 ⟨rfl,hb2⟩;obtain⟨p1,q1,hbw,hE⟩:=HA.out.2 w2 hb2;clear hb2;obtain⟨r0,r1,r2,_⟩:=res3 (y0:=.int .u8 tk) (y1:=.slice Ak lak cak) (y2:=.slice Kk lkk ckk) (Nat.le_succ _) hbw p1;have HE:=hd_ hE;have f0:=fh_ p1 0;have f1:=fh_ p1 1;have f2:=fh_ p1 2;obtain⟨s0,s1,s2⟩:w2.cell? ⟨w.heap.size+1,0,none⟩=some (.int .u8 0)∧w2.cell? ⟨w.heap.size+1,1,none⟩=some (.slice none 0 0)∧w2.cell? ⟨w.heap.size+1,2,none⟩=some (.slice none 0 0):=⟨(ch_ p1 _).trans rfl,(ch_ p1 _).trans rfl,(ch_ p1 _).trans rfl⟩;obtain⟨t0,t1,t2⟩:w2.cell? ⟨w.heap.size,0,none⟩=some (.int .u8 tk)∧w2.cell? ⟨w.heap.size,1,none⟩=some (.slice Ak lak cak)∧w2.cell? ⟨w.heap.size,2,none⟩=some (.slice Kk lkk ckk):=⟨(ch_ q1 _).trans rfl,(ch_ q1 _).trans rfl,(ch_ q1 _).trans rfl⟩;clear p1 q1 hbw hE) | (go_simp;go_at_call 101;refine HB.out.1.mono ?_;rintro e w2 ⟨rfl,hb2⟩;obtain⟨p1,hE⟩:=HB.out.2 w2 hb2;have HE:=hd_ hE;clear hb2 hE;obtain⟨r0,r1,r2⟩:w2.cell? ⟨w.heap.size+1,0,none⟩=some (.int .u8 tk)∧w2.cell? ⟨w.heap.size+1,1,none⟩=some (.slice Ak lak cak)∧w2.cell? ⟨w.heap.size+1,2,none⟩=some (.slice Kk lkk ckk):=⟨(ch_ p1 _).trans rfl,(ch_ p1 _).trans rfl,(ch_ p1 _).trans rfl⟩;clear p1))
  all_goals
    go_wp2_with fail
    refine bodyPost_ret (v:=.tuple #[.agg #[.int .u8 tk,.slice Ak lak cak,.slice Kk lkk ckk],.int .i64 er]) ?_ rfl ⟨HE.out.1,_,_,_,_,_,_,_,_,rfl,?_⟩
    · simp[results,Tryz.results51,go_sem,r0,r1,r2]
    · have hr:=HR.out
      by_cases h0:er=0
      · rw[if_pos h0] at hr
        subst hr
        exact⟨h0,HE.out.2⟩
      · rw[if_neg h0] at hr
        subst hr
        exact h0
end Go.Proofs.YtkjkhoglkpepiaaGreatDoor.nmc
namespace Go.Proofs.YtkjkhoglkpepiaaGreatDoor.nmc
open Go.RowKit tlvc tlvd ndc txc txm intc intm

def NPost0 (S:Nat→Prop)(w:World)(r:Option Nd)(e:Ending)(w':World):Prop:=
  Below w.heap.size w w'∧match r with
    |none=>e=.returned (.tuple #[.agg #[.int .u8 0,.slice none 0 0,.slice none 0 0],.int .i64 91])
    |some n=>∃t A la ca K lk ck,e=.returned (.tuple #[.agg #[.int .u8 t,.slice A la ca,.slice K lk ck],.int .i64 0])∧NdC S w' n (.int .u8 t) (.slice A la ca) (.slice K lk ck)
theorem NPost0.mono {S S':Nat→Prop}{w:World}{r:Option Nd}{e:Ending}{w':World}(hS: ∀g,S g→S' g)(h:NPost0 S w r e w'):NPost0 S' w r e w':=by
  obtain⟨hb,h⟩:=h
  refine⟨hb,?_⟩
  cases r with
  |none=>exact h
  |some n=>
   obtain⟨t,A,la,ca,K,lk,ck,e,hn⟩:=h
   exact⟨t,A,la,ca,K,lk,ck,e,NdC.mono hS _ _ _ _ hn⟩
theorem Tryz.infN:Inf Tryz.prog 41 43 ndE.sz 56:=by
  obtain⟨i0,hi,hz0,hz1,hz2⟩:=info_parts ndc.Tryz.infoNode
  exact⟨Tryz.underlying41,i0,_,hi,hz0,hz1,hz2,rfl⟩

structure SInv (Q:Nat→Prop) (w:World) (kids:List Nd) (v:Value) (wx:World):Prop where
  bel:Below w.heap.size w wx
  low:w.heap.size+2≤wx.heap.size
  res:wx.heap[w.heap.size]? =some (.cells #[.int .u8 0,.slice none 0 0,.slice none 0 0] 43)
  seq:wx.heap[w.heap.size+1]? =some (.cells #[.int .u8 48,.slice none 0 0,v] 43)
  row:GRow ndE 43 (w.heap.size+2) (fun g=>Q g∨w.heap.size+2≤g) wx v kids
section
variable {Q:Nat→Prop} {w wx w':World} {kids:List Nd} {v:Value}
theorem SInv.below (h:SInv Q w kids v wx)(hb:Below wx.heap.size wx w'):SInv Q w kids v w':=
  ⟨below_then h.bel hb (lr_ _),Nat.le_trans h.low hb.size,(hb.block _ (by have:=h.low;omega)).trans h.res,(hb.block _ (by have:=h.low;omega)).trans h.seq,h.row.below (fun g hg=>.inr hg) hb⟩
theorem SInv.start (hw:(w.alloc (.cells #[.int .u8 0,.slice none 0 0,.slice none 0 0] 43)).alloc (.cells #[.int .u8 48,.slice none 0 0,.slice none 0 0] 43)=wx):SInv Q w [] (.slice none 0 0) wx:=by
  subst hw
  refine⟨(below_new _ _).alloc (by simp) _,by simp,?_,heap_is (by simp),GRow.nil⟩
  rw[heap_old_ _ _ (by simp)]
  exact heap_new_ _ _
theorem SInv.push (hQ: ∀g,Q g→g<w.heap.size)(h:SInv Q w kids v wx)(hb:Below wx.heap.size wx w'){n:Nd}{k0 k1 k2:Value}(hn:NdC (fun g=>Q g∨wx.heap.size≤g) w' n k0 k1 k2){g1:Nat}(hg1:wx.heap.size≤g1){T:TypeId}{fr:Nat × Nat}(hbox:w'.heap[g1]? =some (.cells #[k0,k1,k2] T fr))(hl:kids.length≤1000):
    ∃A c w2,(Builtin.append_ #[41,41] 41 #[v,.slice (some ⟨g1,0,none⟩) 1 1]).run Tryz.prog w'=.ok (.slice A (kids.length+1) c) w2∧(w2.heap[w.heap.size+1]? =some (.cells #[.int .u8 48,.slice none 0 0,v] 43))∧SInv Q w (kids++[n]) (.slice A (kids.length+1) c) (w2.setCell ⟨w.heap.size+1,2,none⟩ (.slice A (kids.length+1) c)):=by
  have h':=h.below hb
  have hg1l:=(Array.getElem?_eq_some_iff.1 hbox).1
  have hlow:=h.low
  have hlow':=h'.low
  have hown:=h.row.lt
  have ne: ∀g,wx.heap.size≤g→some g≠v.ownBlock:=fun g hg e=>by have:=(hown g e.symm).2;omega
  have neQ: ∀g,Q g→some g≠v.ownBlock:=fun g hg e=>by have:=(hown g e.symm).1;have:=hQ g hg;omega
  obtain⟨v',w2,hr,hrow,hgr⟩:=h'.row.app (E:=ndE) Tryz.infN (fun g hg=>.inr hg) 41 (g:=g1) (off:=0) (c:=1) (x:=n) (news:=[k0,k1,k2]) ⟨.inr (by omega),hg1l,ne g1 hg1⟩
    (fun j u hu=>by
      rw[Nat.zero_add,ch_ hbox]
      match j,hu with
      |0,hu=>exact hu
      |1,hu=>exact hu
      |2,hu=>exact hu
      |j+3,hu=>simp at hu)
    ⟨k0,k1,k2,rfl,NdC.mono (fun g hg=>⟨hg.1.imp id (fun h=>by omega),hg.2,hg.1.elim (neQ g) (ne g)⟩) _ _ _ _ (NdC.bound _ _ _ _ hn)⟩ (by omega) (by unfold maxLen;omega) hlow'
  obtain⟨A,c,rfl,hc1,hc2⟩:=hrow.shape
  rw[show(kids++[n]).length=kids.length+1 by simp] at hr hrow
  have hz:=hgr.size
  have nb: ∀g,g<w.heap.size+2→some g≠v.ownBlock:=fun g hg e=>by have:=(hown g e.symm).1;omega
  have k4:=fun g (hg:g<w'.heap.size) (hne:some g≠v.ownBlock)=>hgr.block g hg hne
  have hs4:=(k4 (w.heap.size+1) (by omega) (nb _ (by omega))).trans h'.seq
  have bel4:Below w.heap.size w w2:=h'.bel.grown hgr (by omega) (fun j hj=>by have:=(hown j hj).1;omega)
  refine⟨A,c,w2,hr,hs4,⟨bel4.setCell (show w.heap.size≤(⟨w.heap.size+1,2,none⟩:Addr).block from Nat.le_succ _) _,by rw[set_size];omega,?_,set_heap _ _ 2 _ _ _ _ hs4,?_⟩⟩
  · rw[set_heap_other _ _ _ _ _ (by omega)]
    exact(k4 w.heap.size (by omega) (nb _ (by omega))).trans h'.res
  · refine hrow.keep (fun g hg=>.inr hg) (by rw[set_size];exact lr_ _) fun g hg hY=>set_heap_other _ _ _ _ _ ?_
    rcases hY with hY |hY
    · have:=hQ g hY;omega
    · omega
theorem SInv.done (hQ: ∀g,Q g→g<w.heap.size)(h:SInv Q w kids v wx): ∃A c,v=.slice A kids.length c∧NdC (fun g=>Q g∨w.heap.size+2≤g) wx (.mk 48 [] kids) (.int .u8 48) (.slice none 0 0) (.slice A kids.length c):=by
  obtain⟨A,c,rfl,h1,h2,h3⟩:=h.row.lst (fun g hg=>.inr hg)
  exact⟨A,c,rfl,ndC_of (by omega) h1 h2 h3⟩
end
theorem seqF_step_none {α:Type}{F:α→Option Nd}{xs:List α}{i:Nat}{kids:List Nd}{R0:Option (List Nd)}(hi:i<xs.length)(h:(seqF F (xs.drop i)).map (kids++ ·)=R0)(hn:F xs[i]=none):R0=none:=by
  rw[←h,List.drop_eq_getElem_cons hi]
  unfold seqF
  rw[hn]
  rfl
theorem seqF_step_some {α:Type}{F:α→Option Nd}{xs:List α}{i:Nat}{kids:List Nd}{R0:Option (List Nd)}(hi:i<xs.length)(h:(seqF F (xs.drop i)).map (kids++ ·)=R0){n:Nd}(hn:F xs[i]=some n):(seqF F (xs.drop (i+1))).map ((kids++[n])++ ·)=R0:=by
  rw[←h,List.drop_eq_getElem_cons hi]
  conv=>rhs;unfold seqF
  rw[hn]
  simp only[]
  rw[Option.map_map]
  congr 1
  funext l
  simp
theorem seqF_end {α:Type}{F:α→Option Nd}{xs:List α}{i:Nat}{kids:List Nd}{R0:Option (List Nd)}(hi: ¬i<xs.length)(h:(seqF F (xs.drop i)).map (kids++ ·)=R0):R0=some kids:=by
  rw[←h,List.drop_eq_nil_of_le (by omega)]
  unfold seqF
  simp

theorem seqOf_attr (Q B:Nat→Prop)(F:At→Option Nd)(f:FuncId)(A:Option Addr)(len cap:Nat)(xs:List At)(w:World)(hQ: ∀g,Q g→g<w.heap.size)(hl:xs.length=len)(hL:Lst atE B w A xs)(hc:len≤cap)(hm:cap≤maxLen)(hlen:len≤1000)
    (hen: ∀args w,(callFunc f args).run Tryz.prog w=.ok (.enter f args) w)
    (hf: ∀(x:At),x∈xs→∀(W:World),Below w.heap.size w W→∀c0 c1:Value,atE.hold B W x [c0,c1]→Calls Tryz.prog f #[.agg #[c0,c1]] W (NPost (fun g=>Q g∨W.heap.size≤g) W (F x))):
    Calls Tryz.prog 47 #[.slice A len cap,.func (.func f) #[] #[]] w (NPost0 (fun g=>Q g∨w.heap.size≤g) w ((seqF F xs).map (.mk 48 []))):=by
  have h9:cap≤9223372036854775807:=by unfold maxLen at hm;omega
  obtain⟨R0,hR0⟩:=nm_ (seqF F xs)
  rw[hR0]
  have hR1:(seqF F (xs.drop 0)).map ([]++ ·)=R0:=by rw[List.drop_zero,hR0];cases R0<;>simp
  have HR:=hd_ hR1
  have HL:=hd_ (ai_ hl (ai_ hL hQ))
  have HF:=hd_ hf
  have hst: ∀wx,(w.alloc (.cells #[.int .u8 0,.slice none 0 0,.slice none 0 0] 43)).alloc (.cells #[.int .u8 48,.slice none 0 0,.slice none 0 0] 43)=wx→SInv Q w [] (.slice none 0 0) wx:=fun wx h=>SInv.start h
  have HST:=hd_ hst
  clear hl hL hQ hf hR0 hR1 hst hm
  go_enter Tryz.func47,Tryz.ntmps47
  go_wp2_with fail
  go_loopg [14] (len+1) (fun gk s14 wx=>∃(i:Nat) (kids:List Nd) (Av:Option Addr) (cv:Nat),s14=.int .i64 i∧i≤len∧len - i<gk∧Hid (kids.length=i∧(seqF F (xs.drop i)).map (kids++ ·)=R0∧SInv Q w kids (.slice Av i cv) wx))
  case atStart=>exact⟨0,[],none,0,rfl,by omega,by omega,hd_ ⟨rfl,HR.out,HST.out _ rfl⟩⟩
  case round=>
    obtain⟨i,kids,Av,cv,rfl,hi,hgk,HI⟩:=hrel
    clear HR HST
    by_cases hlt:i<len
    · have hltz:(i:Int)< (len:Int):=by omega
      obtain⟨gk',rfl⟩: ∃g',gk=g'+1:=⟨gk - 1,by omega⟩
      have HN:=hd_ (ai_ (show i+1≤len from hlt) (show len - (i+1)<gk' by omega))
      have hix:i<xs.length:=by rw[HL.out.1];exact hlt
      have hbw:=HI.out.2.2.bel
      have hLr:Lst atE B wr A xs:=HL.out.2.1.below hbw
      obtain⟨g,off,cs,rfl,hg,hcell,hold⟩:=hLr.at i hix
      obtain⟨c0,c1,rfl,hat⟩:=hold
      obtain⟨A0,l0,k0,rfl,rfl,hx1,hx2,hx3,hx4,hx5⟩:=hat
      have e0:=hcell 0 _ rfl
      have e1:=hcell 1 _ rfl
      rw[show atE.sz=2 from rfl] at e0 e1
      rw[Nat.add_zero] at e0
      have hw1:Below wr.heap.size wr (wr.alloc (.cells #[.slice A0 l0 k0,.string xs[i].text] 85)):=below_new _ _
      have hz1:=size_new wr (.cells #[.slice A0 l0 k0,.string xs[i].text] 85)
      have hold:atE.hold B (wr.alloc (.cells #[.slice A0 l0 k0,.string xs[i].text] 85)) xs[i] [.slice A0 l0 k0,.string xs[i].text]:=atE.stays ⟨hw1.size,fun p _ hp=>hw1.cell hp⟩ ⟨_,_,rfl,A0,l0,k0,rfl,rfl,hx1,hx2,hx3,hx4,hx5⟩
      obtain⟨tx,htx⟩:=nm_ (xs[i].text)
      rw[htx] at e1 hw1 hold hz1
      clear hx1 hx2 hx3 hx4 hx5
      have hcl:=HF.out xs[i] (List.getElem_mem hix) (wr.alloc (.cells #[.slice A0 l0 k0,.string tx] 85)) (below_then hbw hw1 (lr_ _)) (.slice A0 l0 k0) (.string tx) hold
      obtain⟨r,hr⟩:=nm_ (F xs[i])
      rw[hr] at hcl
      have HC:=hd_ hcl
      have HX:=hd_ hr
      clear hcl hr hold hcell hLr hbw hgk
      cases r with
      |none=>
       go_wp2_with fail
       refine HC.out.mono ?_
       rintro e w2 ⟨hb2,t,Ak,la,ca,Kk,lk,ck,er,rfl,her⟩
       have hne:(er==0)=false:=by simpa using her
       have hI2:=HI.out.2.2.below (below_then (below_new wr (.cells #[.slice A0 l0 k0,.string tx] 85)) hb2 (lr_ _))
       have p0:(w2.alloc (.cells #[.int .u8 t,.slice Ak la ca,.slice Kk lk ck] 43)).heap[w.heap.size]? =some (.cells #[.int .u8 0,.slice none 0 0,.slice none 0 0] 43):=by
         rw[heap_old_ _ _ (by have:=hI2.low;omega)];exact hI2.res
       obtain⟨r0,r1,r2,hB⟩:=res3 (y0:=.int .u8 0) (y1:=.slice none 0 0) (y2:=.slice none 0 0) (lr_ _) (below_then hI2.bel (below_new _ _) (lr_ _)) p0
       have f0:=fh_ p0 0
       have f1:=fh_ p0 1
       have f2:=fh_ p0 2
       have s0:=(ch_ p0 0).trans rfl
       have s1:=(ch_ p0 1).trans rfl
       have s2:=(ch_ p0 2).trans rfl
       have HE:=hd_ hB
       have hR:=seqF_step_none hix HI.out.2.1 HX.out
       subst hR
       clear hI2 hB hb2 p0 HC
       go_wp2_with fail
       refine bodyPost_ret (v:=.tuple #[.agg #[.int .u8 0,.slice none 0 0,.slice none 0 0],.int .i64 91]) ?_ rfl ⟨HE.out,rfl⟩
       simp[results,Tryz.results47,go_sem,r0,r1,r2]
      |some n=>
       go_wp2_with fail
       refine HC.out.mono ?_
       rintro e w2 ⟨hb2,t,Ak,la,ca,Kk,lk,ck,er,rfl,rfl,hn⟩
       have hbx2:=below_then (below_new wr (.cells #[.slice A0 l0 k0,.string tx] 85)) hb2 (lr_ _)
       have hb3:Below w2.heap.size w2 ((w2.alloc (.cells #[.int .u8 t,.slice Ak la ca,.slice Kk lk ck] 43)).alloc (.cells #[.int .u8 t,.slice Ak la ca,.slice Kk lk ck] 43)):=(below_new _ _).alloc (by simp) _
       obtain⟨A',c',w4,hrun,hs4,hI4⟩:=HI.out.2.2.push HL.out.2.2 (below_then hbx2 hb3 (lr_ _)) (NdC.below hb3 _ _ _ _ (NdC.mono (fun g hg=>hg.imp id (fun h=>by rw[hz1] at h;omega)) _ _ _ _ hn)) (g1:=w2.heap.size+1) (by have:=hbx2.size;omega) (heap_is (by simp)) (by rw[HI.out.1];omega)
       rw[HI.out.1] at hrun hI4
       have hI2:=HI.out.2.2.below hbx2
       have d2:(w2.alloc (.cells #[.int .u8 t,.slice Ak la ca,.slice Kk lk ck] 43)).cell? ⟨w.heap.size+1,2,none⟩=some (.slice Av i cv):=by
         rw[World.cell?_alloc_lt _ _ _ (by have:=hI2.low;show w.heap.size+1<_;omega),ch_ hI2.seq];rfl
       have e2:=(ch_ hs4 2).trans rfl
       have g2:=fh_ hs4 2
       have HI4:=hd_ (ai_ (show(kids++[n]).length=i+1 by simp[HI.out.1]) (ai_ (seqF_step_some hix HI.out.2.1 HX.out) hI4))
       clear hbx2 hb3 hI2 hI4 hb2 hn HC hs4
       go_wp2_with (at_builtin;refine wpl_append rfl (.tmp 28) (.tmp 30) 41 rfl _ _ _ rfl rfl hrun ?_)
       clear hrun
       go_wp2
       go_roundg gk'
       case measure=>omega
       case rel=>exact⟨i+1,kids++[n],A',c',by go_num,HN.out.1,HN.out.2,HI4⟩
    · obtain rfl:len=i:=by omega
      have hltz: ¬(len:Int)< (len:Int):=by omega
      have hR:=seqF_end (by rw[HL.out.1];omega) HI.out.2.1
      subst hR
      obtain⟨A2,c2,e2,hn⟩:=HI.out.2.2.done HL.out.2.2
      rw[HI.out.1] at e2 hn
      simp only[Value.slice.injEq] at e2
      obtain⟨rfl,_,rfl⟩:=e2
      have p0:=HI.out.2.2.res
      have q0:=HI.out.2.2.seq
      obtain⟨r0,r1,r2,hB⟩:=res3 (y0:=.int .u8 48) (y1:=.slice none 0 0) (y2:=.slice Av len cv) (lr_ _) HI.out.2.2.bel p0
      have hn2:=res3_nd (b:=w.heap.size) (y0:=.int .u8 48) (y1:=.slice none 0 0) (y2:=.slice Av len cv) (fun g hg=>by rcases hg with hg |hg;have:=HL.out.2.2 g hg;omega;omega) hn
      have f0:=fh_ p0 0
      have f1:=fh_ p0 1
      have f2:=fh_ p0 2
      have s0:=(ch_ p0 0).trans rfl
      have s1:=(ch_ p0 1).trans rfl
      have s2:=(ch_ p0 2).trans rfl
      have u0:=(ch_ q0 0).trans rfl
      have u1:=(ch_ q0 1).trans rfl
      have u2:=(ch_ q0 2).trans rfl
      have HE:=hd_ (ai_ hB (NdC.mono (B':=fun g=>Q g∨w.heap.size≤g) (fun g hg=>hg.imp id (fun h=>by omega)) _ _ _ _ hn2))
      clear hB hn hn2 p0 q0 hgk
      go_wp2_with fail
      refine bodyPost_ret (v:=.tuple #[.agg #[.int .u8 48,.slice none 0 0,.slice Av len cv],.int .i64 0]) ?_ rfl ⟨HE.out.1,_,_,_,_,_,_,_,rfl,HE.out.2⟩
      simp[results,Tryz.results47,go_sem,r0,r1,r2]
end Go.Proofs.YtkjkhoglkpepiaaGreatDoor.nmc
namespace Go.Proofs.YtkjkhoglkpepiaaGreatDoor.nmc
open Go.RowKit tlvc tlvd ndc txc txm intc intm

theorem seqOf_node (Q B:Nat→Prop)(F:Nd→Option Nd)(f:FuncId)(A:Option Addr)(len cap:Nat)(xs:List Nd)(w:World)(hQ: ∀g,Q g→g<w.heap.size)(hl:xs.length=len)(hL:Lst ndE B w A xs)(hc:len≤cap)(hm:cap≤maxLen)(hlen:len≤1000)
    (hen: ∀args w,(callFunc f args).run Tryz.prog w=.ok (.enter f args) w)
    (hf: ∀(x:Nd),x∈xs→∀(W:World),Below w.heap.size w W→∀c0 c1 c2:Value,ndE.hold B W x [c0,c1,c2]→Calls Tryz.prog f #[.agg #[c0,c1,c2]] W (NPost (fun g=>Q g∨W.heap.size≤g) W (F x))):
    Calls Tryz.prog 50 #[.slice A len cap,.func (.func f) #[] #[]] w (NPost0 (fun g=>Q g∨w.heap.size≤g) w ((seqF F xs).map (.mk 48 []))):=by
  have h9:cap≤9223372036854775807:=by unfold maxLen at hm;omega
  obtain⟨R0,hR0⟩:=nm_ (seqF F xs)
  rw[hR0]
  have hR1:(seqF F (xs.drop 0)).map ([]++ ·)=R0:=by rw[List.drop_zero,hR0];cases R0<;>simp
  have HR:=hd_ hR1
  have HL:=hd_ (ai_ hl (ai_ hL hQ))
  have HF:=hd_ hf
  have hst: ∀wx,(w.alloc (.cells #[.int .u8 0,.slice none 0 0,.slice none 0 0] 43)).alloc (.cells #[.int .u8 48,.slice none 0 0,.slice none 0 0] 43)=wx→SInv Q w [] (.slice none 0 0) wx:=fun wx h=>SInv.start h
  have HST:=hd_ hst
  clear hl hL hQ hf hR0 hR1 hst hm
  go_enter Tryz.func50,Tryz.ntmps50
  go_wp2_with fail
  go_loopg [14] (len+1) (fun gk s14 wx=>∃(i:Nat) (kids:List Nd) (Av:Option Addr) (cv:Nat),s14=.int .i64 i∧i≤len∧len - i<gk∧Hid (kids.length=i∧(seqF F (xs.drop i)).map (kids++ ·)=R0∧SInv Q w kids (.slice Av i cv) wx))
  case atStart=>exact⟨0,[],none,0,rfl,by omega,by omega,hd_ ⟨rfl,HR.out,HST.out _ rfl⟩⟩
  case round=>
    obtain⟨i,kids,Av,cv,rfl,hi,hgk,HI⟩:=hrel
    clear HR HST
    by_cases hlt:i<len
    · have hltz:(i:Int)< (len:Int):=by omega
      obtain⟨gk',rfl⟩: ∃g',gk=g'+1:=⟨gk - 1,by omega⟩
      have HN:=hd_ (ai_ (show i+1≤len from hlt) (show len - (i+1)<gk' by omega))
      have hix:i<xs.length:=by rw[HL.out.1];exact hlt
      have hbw:=HI.out.2.2.bel
      have hLr:Lst ndE B wr A xs:=HL.out.2.1.below hbw
      obtain⟨g,off,cs,rfl,hg,hcell,hold⟩:=hLr.at i hix
      obtain⟨c0,c1,c2,rfl,hat⟩:=hold
      obtain⟨tk,A0,l0,k0,K1,l1,k1,rfl,rfl,rfl⟩:=hat.shape
      have e0:=hcell 0 _ rfl
      have e1:=hcell 1 _ rfl
      have e2:=hcell 2 _ rfl
      rw[show ndE.sz=3 from rfl] at e0 e1 e2
      rw[Nat.add_zero] at e0
      have hw1:Below wr.heap.size wr (wr.alloc (.cells #[.int .u8 tk,.slice A0 l0 k0,.slice K1 l1 k1] 43)):=below_new _ _
      have hz1:=size_new wr (.cells #[.int .u8 tk,.slice A0 l0 k0,.slice K1 l1 k1] 43)
      have hold:ndE.hold B (wr.alloc (.cells #[.int .u8 tk,.slice A0 l0 k0,.slice K1 l1 k1] 43)) xs[i] [.int .u8 tk,.slice A0 l0 k0,.slice K1 l1 k1]:=ndE.stays ⟨hw1.size,fun p _ hp=>hw1.cell hp⟩ ⟨_,_,_,rfl,hat⟩
      clear hat
      have hcl:=HF.out xs[i] (List.getElem_mem hix) (wr.alloc (.cells #[.int .u8 tk,.slice A0 l0 k0,.slice K1 l1 k1] 43)) (below_then hbw hw1 (lr_ _)) (.int .u8 tk) (.slice A0 l0 k0) (.slice K1 l1 k1) hold
      obtain⟨r,hr⟩:=nm_ (F xs[i])
      rw[hr] at hcl
      have HC:=hd_ hcl
      have HX:=hd_ hr
      clear hcl hr hold hcell hLr hbw hgk
      cases r with
      |none=>
       go_wp2_with fail
       refine HC.out.mono ?_
       rintro e w2 ⟨hb2,t,Ak,la,ca,Kk,lk,ck,er,rfl,her⟩
       have hne:(er==0)=false:=by simpa using her
       have hI2:=HI.out.2.2.below (below_then (below_new wr (.cells #[.int .u8 tk,.slice A0 l0 k0,.slice K1 l1 k1] 43)) hb2 (lr_ _))
       have p0:(w2.alloc (.cells #[.int .u8 t,.slice Ak la ca,.slice Kk lk ck] 43)).heap[w.heap.size]? =some (.cells #[.int .u8 0,.slice none 0 0,.slice none 0 0] 43):=by
         rw[heap_old_ _ _ (by have:=hI2.low;omega)];exact hI2.res
       obtain⟨r0,r1,r2,hB⟩:=res3 (y0:=.int .u8 0) (y1:=.slice none 0 0) (y2:=.slice none 0 0) (lr_ _) (below_then hI2.bel (below_new _ _) (lr_ _)) p0
       have f0:=fh_ p0 0
       have f1:=fh_ p0 1
       have f2:=fh_ p0 2
       have s0:=(ch_ p0 0).trans rfl
       have s1:=(ch_ p0 1).trans rfl
       have s2:=(ch_ p0 2).trans rfl
       have HE:=hd_ hB
       have hR:=seqF_step_none hix HI.out.2.1 HX.out
       subst hR
       clear hI2 hB hb2 p0 HC
       go_wp2_with fail
       refine bodyPost_ret (v:=.tuple #[.agg #[.int .u8 0,.slice none 0 0,.slice none 0 0],.int .i64 91]) ?_ rfl ⟨HE.out,rfl⟩
       simp[results,Tryz.results50,go_sem,r0,r1,r2]
      |some n=>
       go_wp2_with fail
       refine HC.out.mono ?_
       rintro e w2 ⟨hb2,t,Ak,la,ca,Kk,lk,ck,er,rfl,rfl,hn⟩
       have hbx2:=below_then (below_new wr (.cells #[.int .u8 tk,.slice A0 l0 k0,.slice K1 l1 k1] 43)) hb2 (lr_ _)
       have hb3:Below w2.heap.size w2 ((w2.alloc (.cells #[.int .u8 t,.slice Ak la ca,.slice Kk lk ck] 43)).alloc (.cells #[.int .u8 t,.slice Ak la ca,.slice Kk lk ck] 43)):=(below_new _ _).alloc (by simp) _
       obtain⟨A',c',w4,hrun,hs4,hI4⟩:=HI.out.2.2.push HL.out.2.2 (below_then hbx2 hb3 (lr_ _)) (NdC.below hb3 _ _ _ _ (NdC.mono (fun g hg=>hg.imp id (fun h=>by rw[hz1] at h;omega)) _ _ _ _ hn)) (g1:=w2.heap.size+1) (by have:=hbx2.size;omega) (heap_is (by simp)) (by rw[HI.out.1];omega)
       rw[HI.out.1] at hrun hI4
       have hI2:=HI.out.2.2.below hbx2
       have d2:(w2.alloc (.cells #[.int .u8 t,.slice Ak la ca,.slice Kk lk ck] 43)).cell? ⟨w.heap.size+1,2,none⟩=some (.slice Av i cv):=by
         rw[World.cell?_alloc_lt _ _ _ (by have:=hI2.low;show w.heap.size+1<_;omega),ch_ hI2.seq];rfl
       have e2:=(ch_ hs4 2).trans rfl
       have g2:=fh_ hs4 2
       have HI4:=hd_ (ai_ (show(kids++[n]).length=i+1 by simp[HI.out.1]) (ai_ (seqF_step_some hix HI.out.2.1 HX.out) hI4))
       clear hbx2 hb3 hI2 hI4 hb2 hn HC hs4
       go_wp2_with (at_builtin;refine wpl_append rfl (.tmp 28) (.tmp 30) 41 rfl _ _ _ rfl rfl hrun ?_)
       clear hrun
       go_wp2
       go_roundg gk'
       case measure=>omega
       case rel=>exact⟨i+1,kids++[n],A',c',by go_num,HN.out.1,HN.out.2,HI4⟩
    · obtain rfl:len=i:=by omega
      have hltz: ¬(len:Int)< (len:Int):=by omega
      have hR:=seqF_end (by rw[HL.out.1];omega) HI.out.2.1
      subst hR
      obtain⟨A2,c2,e2,hn⟩:=HI.out.2.2.done HL.out.2.2
      rw[HI.out.1] at e2 hn
      simp only[Value.slice.injEq] at e2
      obtain⟨rfl,_,rfl⟩:=e2
      have p0:=HI.out.2.2.res
      have q0:=HI.out.2.2.seq
      obtain⟨r0,r1,r2,hB⟩:=res3 (y0:=.int .u8 48) (y1:=.slice none 0 0) (y2:=.slice Av len cv) (lr_ _) HI.out.2.2.bel p0
      have hn2:=res3_nd (b:=w.heap.size) (y0:=.int .u8 48) (y1:=.slice none 0 0) (y2:=.slice Av len cv) (fun g hg=>by rcases hg with hg |hg;have:=HL.out.2.2 g hg;omega;omega) hn
      have f0:=fh_ p0 0
      have f1:=fh_ p0 1
      have f2:=fh_ p0 2
      have s0:=(ch_ p0 0).trans rfl
      have s1:=(ch_ p0 1).trans rfl
      have s2:=(ch_ p0 2).trans rfl
      have u0:=(ch_ q0 0).trans rfl
      have u1:=(ch_ q0 1).trans rfl
      have u2:=(ch_ q0 2).trans rfl
      have HE:=hd_ (ai_ hB (NdC.mono (B':=fun g=>Q g∨w.heap.size≤g) (fun g hg=>hg.imp id (fun h=>by omega)) _ _ _ _ hn2))
      clear hB hn hn2 p0 q0 hgk
      go_wp2_with fail
      refine bodyPost_ret (v:=.tuple #[.agg #[.int .u8 48,.slice none 0 0,.slice Av len cv],.int .i64 0]) ?_ rfl ⟨HE.out.1,_,_,_,_,_,_,_,rfl,HE.out.2⟩
      simp[results,Tryz.results50,go_sem,r0,r1,r2]
end Go.Proofs.YtkjkhoglkpepiaaGreatDoor.nmc
namespace Go.Proofs.YtkjkhoglkpepiaaGreatDoor.nmc
open Go.RowKit tlvc tlvd ndc txc txm intc intm

theorem seqOf_text (Q B:Nat→Prop)(F:ByteArray→Option Nd)(f:FuncId)(A:Option Addr)(len cap:Nat)(xs:List ByteArray)(w:World)(hQ: ∀g,Q g→g<w.heap.size)(hl:xs.length=len)(hL:Lst stE B w A xs)(hc:len≤cap)(hm:cap≤maxLen)(hlen:len≤1000)
    (hen: ∀args w,(callFunc f args).run Tryz.prog w=.ok (.enter f args) w)
    (hf: ∀(x:ByteArray),x∈xs→∀(W:World),Below w.heap.size w W→∀c0:Value,stE.hold B W x [c0]→Calls Tryz.prog f #[c0] W (NPost (fun g=>Q g∨W.heap.size≤g) W (F x))):
    Calls Tryz.prog 180 #[.slice A len cap,.func (.func f) #[] #[]] w (NPost0 (fun g=>Q g∨w.heap.size≤g) w ((seqF F xs).map (.mk 48 []))):=by
  have h9:cap≤9223372036854775807:=by unfold maxLen at hm;omega
  obtain⟨R0,hR0⟩:=nm_ (seqF F xs)
  rw[hR0]
  have hR1:(seqF F (xs.drop 0)).map ([]++ ·)=R0:=by rw[List.drop_zero,hR0];cases R0<;>simp
  have HR:=hd_ hR1
  have HL:=hd_ (ai_ hl (ai_ hL hQ))
  have HF:=hd_ hf
  have hst: ∀wx,(w.alloc (.cells #[.int .u8 0,.slice none 0 0,.slice none 0 0] 43)).alloc (.cells #[.int .u8 48,.slice none 0 0,.slice none 0 0] 43)=wx→SInv Q w [] (.slice none 0 0) wx:=fun wx h=>SInv.start h
  have HST:=hd_ hst
  clear hl hL hQ hf hR0 hR1 hst hm
  go_enter Tryz.func180,Tryz.ntmps180
  go_wp2_with fail
  go_loopg [14] (len+1) (fun gk s14 wx=>∃(i:Nat) (kids:List Nd) (Av:Option Addr) (cv:Nat),s14=.int .i64 i∧i≤len∧len - i<gk∧Hid (kids.length=i∧(seqF F (xs.drop i)).map (kids++ ·)=R0∧SInv Q w kids (.slice Av i cv) wx))
  case atStart=>exact⟨0,[],none,0,rfl,by omega,by omega,hd_ ⟨rfl,HR.out,HST.out _ rfl⟩⟩
  case round=>
    obtain⟨i,kids,Av,cv,rfl,hi,hgk,HI⟩:=hrel
    clear HR HST
    by_cases hlt:i<len
    · have hltz:(i:Int)< (len:Int):=by omega
      obtain⟨gk',rfl⟩: ∃g',gk=g'+1:=⟨gk - 1,by omega⟩
      have HN:=hd_ (ai_ (show i+1≤len from hlt) (show len - (i+1)<gk' by omega))
      have hix:i<xs.length:=by rw[HL.out.1];exact hlt
      have hbw:=HI.out.2.2.bel
      have hLr:Lst stE B wr A xs:=HL.out.2.1.below hbw
      obtain⟨g,off,cs,rfl,hg,hcell,hold⟩:=hLr.at i hix
      obtain⟨rfl,hx5⟩:=hold
      have e0:=hcell 0 _ rfl
      rw[show stE.sz=1 from rfl] at e0
      rw[Nat.add_zero,Nat.mul_one] at e0
      have hw1:Below wr.heap.size wr wr:=br_ _ _
      have hold:stE.hold B wr xs[i] [.string xs[i]]:=⟨rfl,hx5⟩
      obtain⟨tx,htx⟩:=nm_ (xs[i])
      rw[htx] at e0
      rw[show([.string xs[i]]:List Value)=[.string tx] by rw[htx]] at hold
      clear hx5
      have hcl:=HF.out xs[i] (List.getElem_mem hix) wr (hbw) (.string tx) hold
      obtain⟨r,hr⟩:=nm_ (F xs[i])
      rw[hr] at hcl
      have HC:=hd_ hcl
      have HX:=hd_ hr
      clear hcl hr hold hcell hLr hbw hgk
      cases r with
      |none=>
       go_wp2_with fail
       refine HC.out.mono ?_
       rintro e w2 ⟨hb2,t,Ak,la,ca,Kk,lk,ck,er,rfl,her⟩
       have hne:(er==0)=false:=by simpa using her
       have hI2:=HI.out.2.2.below (below_then (br_ wr.heap.size wr) hb2 (lr_ _))
       have p0:(w2.alloc (.cells #[.int .u8 t,.slice Ak la ca,.slice Kk lk ck] 43)).heap[w.heap.size]? =some (.cells #[.int .u8 0,.slice none 0 0,.slice none 0 0] 43):=by
         rw[heap_old_ _ _ (by have:=hI2.low;omega)];exact hI2.res
       obtain⟨r0,r1,r2,hB⟩:=res3 (y0:=.int .u8 0) (y1:=.slice none 0 0) (y2:=.slice none 0 0) (lr_ _) (below_then hI2.bel (below_new _ _) (lr_ _)) p0
       have f0:=fh_ p0 0
       have f1:=fh_ p0 1
       have f2:=fh_ p0 2
       have s0:=(ch_ p0 0).trans rfl
       have s1:=(ch_ p0 1).trans rfl
       have s2:=(ch_ p0 2).trans rfl
       have HE:=hd_ hB
       have hR:=seqF_step_none hix HI.out.2.1 HX.out
       subst hR
       clear hI2 hB hb2 p0 HC
       go_wp2_with fail
       refine bodyPost_ret (v:=.tuple #[.agg #[.int .u8 0,.slice none 0 0,.slice none 0 0],.int .i64 91]) ?_ rfl ⟨HE.out,rfl⟩
       simp[results,Tryz.results180,go_sem,r0,r1,r2]
      |some n=>
       go_wp2_with fail
       refine HC.out.mono ?_
       rintro e w2 ⟨hb2,t,Ak,la,ca,Kk,lk,ck,er,rfl,rfl,hn⟩
       have hbx2:=below_then (br_ wr.heap.size wr) hb2 (lr_ _)
       have hb3:Below w2.heap.size w2 ((w2.alloc (.cells #[.int .u8 t,.slice Ak la ca,.slice Kk lk ck] 43)).alloc (.cells #[.int .u8 t,.slice Ak la ca,.slice Kk lk ck] 43)):=(below_new _ _).alloc (by simp) _
       obtain⟨A',c',w4,hrun,hs4,hI4⟩:=HI.out.2.2.push HL.out.2.2 (below_then hbx2 hb3 (lr_ _)) (NdC.below hb3 _ _ _ _ (NdC.mono (fun g hg=>hg.imp id (fun h=>by omega)) _ _ _ _ hn)) (g1:=w2.heap.size+1) (by have:=hbx2.size;omega) (heap_is (by simp)) (by rw[HI.out.1];omega)
       rw[HI.out.1] at hrun hI4
       have hI2:=HI.out.2.2.below hbx2
       have d2:(w2.alloc (.cells #[.int .u8 t,.slice Ak la ca,.slice Kk lk ck] 43)).cell? ⟨w.heap.size+1,2,none⟩=some (.slice Av i cv):=by
         rw[World.cell?_alloc_lt _ _ _ (by have:=hI2.low;show w.heap.size+1<_;omega),ch_ hI2.seq];rfl
       have e2:=(ch_ hs4 2).trans rfl
       have g2:=fh_ hs4 2
       have HI4:=hd_ (ai_ (show(kids++[n]).length=i+1 by simp[HI.out.1]) (ai_ (seqF_step_some hix HI.out.2.1 HX.out) hI4))
       clear hbx2 hb3 hI2 hI4 hb2 hn HC hs4
       go_wp2_with (at_builtin;refine wpl_append rfl (.tmp 28) (.tmp 30) 41 rfl _ _ _ rfl rfl hrun ?_)
       clear hrun
       go_wp2
       go_roundg gk'
       case measure=>omega
       case rel=>exact⟨i+1,kids++[n],A',c',by go_num,HN.out.1,HN.out.2,HI4⟩
    · obtain rfl:len=i:=by omega
      have hltz: ¬(len:Int)< (len:Int):=by omega
      have hR:=seqF_end (by rw[HL.out.1];omega) HI.out.2.1
      subst hR
      obtain⟨A2,c2,e2,hn⟩:=HI.out.2.2.done HL.out.2.2
      rw[HI.out.1] at e2 hn
      simp only[Value.slice.injEq] at e2
      obtain⟨rfl,_,rfl⟩:=e2
      have p0:=HI.out.2.2.res
      have q0:=HI.out.2.2.seq
      obtain⟨r0,r1,r2,hB⟩:=res3 (y0:=.int .u8 48) (y1:=.slice none 0 0) (y2:=.slice Av len cv) (lr_ _) HI.out.2.2.bel p0
      have hn2:=res3_nd (b:=w.heap.size) (y0:=.int .u8 48) (y1:=.slice none 0 0) (y2:=.slice Av len cv) (fun g hg=>by rcases hg with hg |hg;have:=HL.out.2.2 g hg;omega;omega) hn
      have f0:=fh_ p0 0
      have f1:=fh_ p0 1
      have f2:=fh_ p0 2
      have s0:=(ch_ p0 0).trans rfl
      have s1:=(ch_ p0 1).trans rfl
      have s2:=(ch_ p0 2).trans rfl
      have u0:=(ch_ q0 0).trans rfl
      have u1:=(ch_ q0 1).trans rfl
      have u2:=(ch_ q0 2).trans rfl
      have HE:=hd_ (ai_ hB (NdC.mono (B':=fun g=>Q g∨w.heap.size≤g) (fun g hg=>hg.imp id (fun h=>by omega)) _ _ _ _ hn2))
      clear hB hn hn2 p0 q0 hgk
      go_wp2_with fail
      refine bodyPost_ret (v:=.tuple #[.agg #[.int .u8 48,.slice none 0 0,.slice Av len cv],.int .i64 0]) ?_ rfl ⟨HE.out.1,_,_,_,_,_,_,_,rfl,HE.out.2⟩
      simp[results,Tryz.results180,go_sem,r0,r1,r2]
end Go.Proofs.YtkjkhoglkpepiaaGreatDoor.nmc
namespace Go.Proofs.YtkjkhoglkpepiaaGreatDoor.nmc
open Go.RowKit tlvc tlvd ndc txc txm intc intm
theorem NPost.mono {S S':Nat→Prop}{w:World}{r:Option Nd}{e:Ending}{w':World}(hS: ∀g,S g→S' g)(h:NPost S w r e w'):NPost S' w r e w':=by
  obtain⟨hb,t,A,la,ca,K,lk,ck,er,e,h⟩:=h
  refine⟨hb,t,A,la,ca,K,lk,ck,er,e,?_⟩
  cases r with
  |none=>exact h
  |some n=>exact⟨h.1,NdC.mono hS _ _ _ _ h.2⟩
theorem conv_at (W:World)(s:ByteArray)(hs:s.size≤maxLen): ∃cap W2,(convert 9 34 (.string s)).run Tryz.prog W=.ok (.slice (some ⟨W.heap.size,0,none⟩) s.size cap) W2∧s.size≤cap∧cap≤maxLen∧Bys W2 (some ⟨W.heap.size,0,none⟩) s.size (bytesI s)∧Below W.heap.size W W2∧W2.heap.size=W.heap.size+1:=by
  have h:=run_bytes_of_string (P:=Tryz.prog) W 9 34 5 s Tryz.underlying9 Tryz.underlying34 Tryz.underlying5
  exact⟨_,_,h,grownCap_ge _ _ _ _,grownCap_le_maxLen _ _ _ _ hs,bys_conv (w:=W.drew) (grownCap_ge _ _ _ _),((br_ W.heap.size W).drew).alloc (lr_ _) _,by show(W.drew.alloc _).heap.size=_;rw[size_new];rfl⟩
theorem wordF_no {s:ByteArray}(h:s.size=0∨64<s.size):wordF s=none:=by
  unfold wordF
  have:wordOK s=false:=by
    unfold wordOK
    rcases h with h |h
    · rw[decide_eq_false (by omega: ¬1≤s.size)];rfl
    · rw[decide_eq_false (by omega: ¬s.size≤64),Bool.and_false];rfl
  rw[this]
  rfl
theorem wordF_check {s:ByteArray}(h1:1≤s.size)(h:s.size≤64):wordF s=checkF (wordN s):=by
  rw[check_word h]
  unfold wordF wordOK
  rw[decide_eq_true h1,decide_eq_true h]
  rfl
theorem general_any (s:ByteArray)(w:World)(hs:s.size≤maxLen)(hT:Tabs w):
    Calls Tryz.prog 179 #[.string s] w (NPost (fun g=>w.heap.size≤g) w (wordF s)):=by
  have h9:s.size≤9223372036854775807:=by unfold maxLen at hs;omega
  obtain⟨W0,hW0⟩:=nm_ (w.alloc (.cells #[.int .u8 0,.slice none 0 0,.slice none 0 0] 43))
  have hb0:Below w.heap.size w W0:=by rw[←hW0];exact below_new _ _
  have p0:W0.heap[w.heap.size]? =some (.cells #[.int .u8 0,.slice none 0 0,.slice none 0 0] 43):=by rw[←hW0];exact heap_new_ _ _
  have hz0:W0.heap.size=w.heap.size+1:=by rw[←hW0];simp
  by_cases hbad:s.size=0∨64<s.size
  · rw[wordF_no hbad]
    obtain⟨r0,r1,r2,hB⟩:=res3 (y0:=.int .u8 0) (y1:=.slice none 0 0) (y2:=.slice none 0 0) (lr_ _) hb0 p0
    have f0:=fh_ p0 0
    have f1:=fh_ p0 1
    have f2:=fh_ p0 2
    have s0:=(ch_ p0 0).trans rfl
    have s1:=(ch_ p0 1).trans rfl
    have s2:=(ch_ p0 2).trans rfl
    have HE:=hd_ hB
    clear hB hb0 p0 hz0 hT
    rcases hbad with hbad |hbad
    · have hb1:((s.size:Int)==0)=true:=by rw[beq_iff_eq];omega
      have hb2:(s.size:Int)=0:=by omega
      go_enter Tryz.func179,Tryz.ntmps179
      go_wp2_with fail
      refine bodyPost_ret (v:=.tuple #[.agg #[.int .u8 0,.slice none 0 0,.slice none 0 0],.int .i64 91]) ?_ rfl ⟨HE.out,_,_,_,_,_,_,_,_,rfl,(by decide:(91:Int)≠0)⟩
      simp[results,Tryz.results179,go_sem,r0,r1,r2]
    · have hb1:((s.size:Int)==0)=false:=by rw[beq_eq_false_iff_ne];omega
      have hb2: ¬(s.size:Int)=0:=by omega
      have hb3:(64:Int)< (s.size:Int):=by omega
      go_enter Tryz.func179,Tryz.ntmps179
      go_wp2_with fail
      refine bodyPost_ret (v:=.tuple #[.agg #[.int .u8 0,.slice none 0 0,.slice none 0 0],.int .i64 91]) ?_ rfl ⟨HE.out,_,_,_,_,_,_,_,_,rfl,(by decide:(91:Int)≠0)⟩
      simp[results,Tryz.results179,go_sem,r0,r1,r2]
  · have hb1:((s.size:Int)==0)=false:=by rw[beq_eq_false_iff_ne];omega
    have hb2: ¬(s.size:Int)=0:=by omega
    have hb3: ¬(64:Int)< (s.size:Int):=by omega
    rw[wordF_check (by omega) (by omega)]
    obtain⟨cp,W2,hcv,hc1,hc2,hby,hbw,hz2⟩:=conv_at W0 s hs
    have hbw2:=below_then hb0 hbw (lr_ _)
    have hnd:NdC (fun g=>w.heap.size<g∧g<W2.heap.size) W2 (wordN s) (.int .u8 27) (.slice (some ⟨W0.heap.size,0,none⟩) s.size cp) (.slice none 0 0):=ndC_leaf (by omega) hc1 hc2 hby (fun _ g off sp e=>by cases e;omega)
    have hck:=checked_any (wordN s) _ _ _ _ W2 hnd (fun g hg=>hg.2) (hT.below hbw2)
    obtain⟨r,hr⟩:=nm_ (checkF (wordN s))
    rw[hr] at hck⊢
    have p2:=(hbw.block w.heap.size (by omega)).trans p0
    have hend: ∀w3,Below W2.heap.size W2 w3→∀(t:Int) (A:Option Addr) (la ca:Nat) (K:Option Addr) (lk ck:Nat),w3.heap[w.heap.size]? =some (.cells #[.int .u8 0,.slice none 0 0,.slice none 0 0] 43)∧Below w.heap.size w w3:=fun w3 h3 _ _ _ _ _ _ _=>
      ⟨(h3.block _ (by omega)).trans p2,below_then hbw2 h3 (lr_ _)⟩
    have HC:=hd_ hck
    have HE:=hd_ hend
    clear hck hend p2 hnd hbw2 hby hbw hb0 p0 hz0 hz2 hT hr
    go_enter Tryz.func179,Tryz.ntmps179
    go_wp2_with fail
    refine HC.out.mono ?_
    rintro e w3 ⟨hb3,t,A,la,ca,K,lk,ck,er,rfl,hpost⟩
    obtain⟨p3,hB3⟩:=HE.out w3 hb3 t A la ca K lk ck
    obtain⟨r0,r1,r2,hB⟩:=res3 (y0:=.int .u8 t) (y1:=.slice A la ca) (y2:=.slice K lk ck) (lr_ _) hB3 p3
    have f0:=fh_ p3 0
    have f1:=fh_ p3 1
    have f2:=fh_ p3 2
    have s0:=(ch_ p3 0).trans rfl
    have s1:=(ch_ p3 1).trans rfl
    have s2:=(ch_ p3 2).trans rfl
    have HP:=hd_ hpost
    have HB:=hd_ hB
    clear hpost hB hB3 hb3 p3 HC HE
    go_wp2_with fail
    refine bodyPost_ret (v:=.tuple #[.agg #[.int .u8 t,.slice A la ca,.slice K lk ck],.int .i64 er]) ?_ rfl ⟨HB.out,t,A,la,ca,K,lk,ck,er,rfl,?_⟩
    · simp[results,Tryz.results179,go_sem,r0,r1,r2]
    · have hp:=HP.out
      cases r with
      |none=>exact hp
      |some n=>exact⟨hp.1,NdC.mono (fun g hg=>by omega) _ _ _ _ (res3_nd (fun g hg=>by omega) hp.2)⟩
theorem attrF_no {a:At}(h:objB a.oid=false∨64<a.text.size):attrF a=none:=by
  unfold attrF
  have:attrOK a=false:=by
    unfold attrOK
    rcases h with h |h
    · rw[h];rfl
    · rw[decide_eq_false (by omega: ¬a.text.size≤64),Bool.and_false];rfl
  rw[this]
  rfl
theorem attrF_check {a:At}(ho:objB a.oid=true)(h:a.text.size≤64):attrF a=(seqF checkF [.mk 6 (encO a.oid) [],.mk 12 (bytesI a.text) []]).map (.mk 48 []):=by
  rw[check_attr ho h]
  unfold attrF attrOK
  rw[ho,decide_eq_true h]
  cases utfS a.text<;>rfl
theorem putAttr_any (a:At)(S:Nat→Prop)(c0 c1:Value)(w:World)(ha:atE.hold S w a [c0,c1])(hT:Tabs w):
    Calls Tryz.prog 48 #[.agg #[c0,c1]] w (NPost (fun g=>w.heap.size≤g) w (attrF a)):=by
  obtain⟨_,_,e,A,la,ca,rfl,rfl,hx1,hx2,hx3,hx4,hx5⟩:=ha
  simp only[List.cons.injEq,and_true] at e
  obtain⟨rfl,rfl⟩:=e
  obtain⟨s,hs⟩:=nm_ (a.text)
  obtain⟨W0,hW0⟩:=nm_ ((w.alloc (.cells #[.slice A la ca,.string s] 85)).alloc (.cells #[.int .u8 0,.slice none 0 0,.slice none 0 0] 43))
  have hb0:Below w.heap.size w W0:=by rw[←hW0];exact(below_new _ _).alloc (by simp) _
  have p0:W0.heap[w.heap.size+1]? =some (.cells #[.int .u8 0,.slice none 0 0,.slice none 0 0] 43):=by rw[←hW0];exact heap_is (by simp)
  have q0:W0.heap[w.heap.size]? =some (.cells #[.slice A la ca,.string s] 85):=by rw[←hW0,heap_old_ _ _ (by simp)];exact heap_new_ _ _
  have hz0:W0.heap.size=w.heap.size+2:=by rw[←hW0];simp
  have b0:W0.cell? ⟨w.heap.size,0,none⟩=some (.slice A la ca):=(ch_ q0 _).trans rfl
  have hput:=putOID_any A la ca a.oid W0 (hx3.below hb0) hx1 hx2
  have hno:attrF a=none→∀w1,Below W0.heap.size W0 w1→w1.heap[w.heap.size+1]? =some (.cells #[.int .u8 0,.slice none 0 0,.slice none 0 0] 43)∧Below w.heap.size w w1∧w1.cell? ⟨w.heap.size,1,none⟩=some (.string s):=fun _ w1 h1=>
    ⟨(h1.block _ (by omega)).trans p0,below_then hb0 h1 (lr_ _),(h1.cell (p:=⟨w.heap.size,1,none⟩) (by show w.heap.size<_;omega)).trans ((ch_ q0 _).trans rfl)⟩
  have h9:s.size≤9223372036854775807:=by rw[hs] at hx5;unfold maxLen at hx5;omega
  by_cases ho:objB a.oid=false
  · rw[putO_no ho] at hput
    have hN:=attrF_no (a:=a) (.inl ho)
    rw[hN]
    have HC:=hd_ hput
    have HN:=hd_ (hno hN)
    clear hput hno p0 q0 hb0 hz0 hT hx1 hx2 hx3 hx4 hx5 ho hN
    go_enter Tryz.func48,Tryz.ntmps48
    go_wp2_with fail
    refine HC.out.mono ?_
    rintro e w1 ⟨A1,c1,rfl,_,hb1⟩
    obtain⟨p1,hB1,_⟩:=HN.out w1 hb1
    obtain⟨r0,r1,r2,hB⟩:=res3 (y0:=.int .u8 0) (y1:=.slice none 0 0) (y2:=.slice none 0 0) (Nat.le_succ _) hB1 p1
    have f0:=fh_ p1 0
    have f1:=fh_ p1 1
    have f2:=fh_ p1 2
    have s0:=(ch_ p1 0).trans rfl
    have s1:=(ch_ p1 1).trans rfl
    have s2:=(ch_ p1 2).trans rfl
    have HE:=hd_ hB
    clear hB hB1 p1 hb1 HC HN
    go_wp2_with fail
    refine bodyPost_ret (v:=.tuple #[.agg #[.int .u8 0,.slice none 0 0,.slice none 0 0],.int .i64 91]) ?_ rfl ⟨HE.out,_,_,_,_,_,_,_,_,rfl,(by decide:(91:Int)≠0)⟩
    simp[results,Tryz.results48,go_sem,r0,r1,r2]
  have ho:objB a.oid=true:=by simpa using ho
  rw[putO_yes ho] at hput
  by_cases hbad:64<s.size
  · have hN:=attrF_no (a:=a) (.inr (by rw[hs];exact hbad))
    rw[hN]
    have hbz:(64:Int)< (s.size:Int):=by omega
    have HC:=hd_ hput
    have HN:=hd_ (hno hN)
    clear hput hno p0 q0 hb0 hz0 hT hx1 hx2 hx3 hx4 hx5 ho hN hbad
    go_enter Tryz.func48,Tryz.ntmps48
    go_wp2_with fail
    refine HC.out.mono ?_
    rintro e w1 ⟨A1,c1,rfl,_,hb1⟩
    obtain⟨p1,hB1,b1⟩:=HN.out w1 hb1
    obtain⟨r0,r1,r2,hB⟩:=res3 (y0:=.int .u8 0) (y1:=.slice none 0 0) (y2:=.slice none 0 0) (Nat.le_succ _) hB1 p1
    have f0:=fh_ p1 0
    have f1:=fh_ p1 1
    have f2:=fh_ p1 2
    have s0:=(ch_ p1 0).trans rfl
    have s1:=(ch_ p1 1).trans rfl
    have s2:=(ch_ p1 2).trans rfl
    have HE:=hd_ hB
    clear hB hB1 p1 hb1 HC HN
    go_wp2_with fail
    refine bodyPost_ret (v:=.tuple #[.agg #[.int .u8 0,.slice none 0 0,.slice none 0 0],.int .i64 91]) ?_ rfl ⟨HE.out,_,_,_,_,_,_,_,_,rfl,(by decide:(91:Int)≠0)⟩
    simp[results,Tryz.results48,go_sem,r0,r1,r2]
  · have hbz: ¬(64:Int)< (s.size:Int):=by omega
    rw[attrF_check ho (by rw[hs];omega),hs]
    have hent:=enters_of Tryz.func51 (by kernel_rfl) rfl
    have hseq: ∀w1 A1 c1,Below W0.heap.size W0 w1→intc.Here W0.heap.size A1 c1 (encO a.oid) w1→∃cp W2,(convert 9 34 (.string s)).run Tryz.prog w1=.ok (.slice (some ⟨w1.heap.size,0,none⟩) s.size cp) W2∧
        Calls Tryz.prog 50 #[.slice (some ⟨W2.heap.size,0,none⟩) 2 2,.func (.func 51) #[] #[]] (W2.alloc (.cells #[.int .u8 6,.slice A1 (encO a.oid).length c1,.slice none 0 0,.int .u8 12,.slice (some ⟨w1.heap.size,0,none⟩) s.size cp,.slice none 0 0] 43)) (NPost0 (fun g=>w.heap.size+2≤g) (W2.alloc (.cells #[.int .u8 6,.slice A1 (encO a.oid).length c1,.slice none 0 0,.int .u8 12,.slice (some ⟨w1.heap.size,0,none⟩) s.size cp,.slice none 0 0] 43)) ((seqF checkF [.mk 6 (encO a.oid) [],.mk 12 (bytesI s) []]).map (.mk 48 [])))∧
        Below w.heap.size w (W2.alloc (.cells #[.int .u8 6,.slice A1 (encO a.oid).length c1,.slice none 0 0,.int .u8 12,.slice (some ⟨w1.heap.size,0,none⟩) s.size cp,.slice none 0 0] 43))∧(W2.alloc (.cells #[.int .u8 6,.slice A1 (encO a.oid).length c1,.slice none 0 0,.int .u8 12,.slice (some ⟨w1.heap.size,0,none⟩) s.size cp,.slice none 0 0] 43)).heap[w.heap.size+1]? =some (.cells #[.int .u8 0,.slice none 0 0,.slice none 0 0] 43)∧W2.cell? ⟨w.heap.size,1,none⟩=some (.string s)∧w1.cell? ⟨w.heap.size,1,none⟩=some (.string s):=by
      intro w1 A1 c1 h1 hh
      obtain⟨cp,W2,hcv,hc1,hc2,hby,hbw,hz2⟩:=conv_at w1 s (by rw[hs] at hx5;exact hx5)
      have hz1:=h1.size
      obtain⟨W3,hW3⟩:=nm_ (W2.alloc (.cells #[.int .u8 6,.slice A1 (encO a.oid).length c1,.slice none 0 0,.int .u8 12,.slice (some ⟨w1.heap.size,0,none⟩) s.size cp,.slice none 0 0] 43))
      have hb3:Below W2.heap.size W2 W3:=by rw[←hW3];exact below_new _ _
      have p3:W3.heap[W2.heap.size]? =some (.cells #[.int .u8 6,.slice A1 (encO a.oid).length c1,.slice none 0 0,.int .u8 12,.slice (some ⟨w1.heap.size,0,none⟩) s.size cp,.slice none 0 0] 43):=by rw[←hW3];exact heap_new_ _ _
      have hz3:W3.heap.size=W2.heap.size+1:=by rw[←hW3];simp
      have hB1:=below_then hb0 h1 (lr_ _)
      have hB2:=below_then hB1 hbw (lr_ _)
      have hB3:=below_then hB2 hb3 (lr_ _)
      refine⟨cp,W2,hcv,?_,by rw[hW3];exact hB3,?_,?_,?_⟩
      · rw[hW3]
        have n1:NdC (fun g=>w.heap.size+2≤g∧g<W3.heap.size) W3 (.mk 6 (encO a.oid) []) (.int .u8 6) (.slice A1 (encO a.oid).length c1) (.slice none 0 0):=ndC_leaf (by omega) hh.2.1 hh.2.2.1 ((hh.1.below hbw).below hb3) (fun hn g off sp e=>by
          obtain⟨b',off',e',hb',_⟩:=hh.1.2.2 hn
          have:=hh.2.2.2 b' off' e'
          rw[e'] at e;cases e;omega)
        have n2:NdC (fun g=>w.heap.size+2≤g∧g<W3.heap.size) W3 (.mk 12 (bytesI s) []) (.int .u8 12) (.slice (some ⟨w1.heap.size,0,none⟩) s.size cp) (.slice none 0 0):=ndC_leaf (by omega) hc1 hc2 (hby.below hb3) (fun hn g off sp e=>by cases e;omega)
        have hL:Lst ndE (fun g=>w.heap.size+2≤g∧g<W3.heap.size) W3 (some ⟨W2.heap.size,0,none⟩) [.mk 6 (encO a.oid) [],.mk 12 (bytesI s) []]:=fun _=>⟨W2.heap.size,0,rfl,by omega,⟨by omega,by omega⟩,fun i hi=>by
          match i,hi with
          |0,_=>exact⟨[.int .u8 6,.slice A1 (encO a.oid).length c1,.slice none 0 0],fun j u hu=>by
              rw[ch_ p3]
              match j,hu with
              |0,hu=>exact hu
              |1,hu=>exact hu
              |2,hu=>exact hu
              |j+3,hu=>simp at hu,_,_,_,rfl,n1⟩
          |1,_=>exact⟨[.int .u8 12,.slice (some ⟨w1.heap.size,0,none⟩) s.size cp,.slice none 0 0],fun j u hu=>by
              rw[ch_ p3]
              match j,hu with
              |0,hu=>exact hu
              |1,hu=>exact hu
              |2,hu=>exact hu
              |j+3,hu=>simp at hu,_,_,_,rfl,n2⟩⟩
        refine(seqOf_node (fun g=>w.heap.size+2≤g∧g<W3.heap.size) (fun g=>w.heap.size+2≤g∧g<W3.heap.size) checkF 51 (some ⟨W2.heap.size,0,none⟩) 2 2 _ W3 (fun g hg=>hg.2) rfl hL (lr_ _) (by unfold maxLen;decide) (by decide) hent ?_).mono fun e w' h=>NPost0.mono (fun g hg=>by omega) h
        intro x hx W hW k0 k1 k2 hold
        have hN:NdC (fun g=>w.heap.size+2≤g∧g<W3.heap.size) W x k0 k1 k2:=by
          obtain⟨_,_,_,e,h⟩:=hold
          simp only[List.cons.injEq,and_true] at e
          obtain⟨rfl,rfl,rfl⟩:=e
          exact h
        refine(checked_any x _ k0 k1 k2 W hN (fun g hg=>by have:=hW.size;omega) (hT.below (below_then hB3 hW (lr_ _)))).mono fun e w' h=>NPost.mono (fun g hg=>.inl hg) h
      · rw[hW3]
        exact(hb3.block _ (by omega)).trans ((hbw.block _ (by omega)).trans ((h1.block _ (by omega)).trans p0))
      · exact(hbw.cell (p:=⟨w.heap.size,1,none⟩) (by show w.heap.size<_;omega)).trans ((h1.cell (p:=⟨w.heap.size,1,none⟩) (by show w.heap.size<_;omega)).trans ((ch_ q0 _).trans rfl))
      · exact(h1.cell (p:=⟨w.heap.size,1,none⟩) (by show w.heap.size<_;omega)).trans ((ch_ q0 _).trans rfl)
    obtain⟨R,hR⟩:=nm_ ((seqF checkF [.mk 6 (encO a.oid) [],.mk 12 (bytesI s) []]).map (Nd.mk 48 []))
    rw[hR] at hseq⊢
    have HC:=hd_ hput
    have HS:=hd_ hseq
    clear hput hno hseq p0 q0 hb0 hz0 hT hx1 hx2 hx3 hx4 hx5 ho hR hent hbad
    go_enter Tryz.func48,Tryz.ntmps48
    go_wp2_with fail
    refine HC.out.mono ?_
    rintro e w1 ⟨A1,c1,rfl,hh,hb1⟩
    obtain⟨cp,W2,hcv,hcall,hB3,p3,b2,b1⟩:=HS.out w1 A1 c1 hb1 hh
    have HK:=hd_ hcall
    have HB:=hd_ (ai_ hB3 p3)
    clear hcall hB3 p3 hb1 hh HC HS
    go_wp2_with fail
    refine HK.out.mono ?_
    rintro e w4 ⟨hb4,hpost⟩
    have hlt:=(Array.getElem?_eq_some_iff.1 HB.out.2).1
    have p4:=(hb4.block _ hlt).trans HB.out.2
    have hB4:=below_then HB.out.1 hb4 (lr_ _)
    cases R with
    |none=>
     have hpost:e=_:=hpost
     subst hpost
     obtain⟨r0,r1,r2,hB⟩:=res3 (y0:=.int .u8 0) (y1:=.slice none 0 0) (y2:=.slice none 0 0) (Nat.le_succ _) hB4 p4
     have f0:=fh_ p4 0
     have f1:=fh_ p4 1
     have f2:=fh_ p4 2
     have s0:=(ch_ p4 0).trans rfl
     have s1:=(ch_ p4 1).trans rfl
     have s2:=(ch_ p4 2).trans rfl
     have HE:=hd_ hB
     clear hB hB4 p4 hb4 hlt HK HB
     go_wp2_with fail
     refine bodyPost_ret (v:=.tuple #[.agg #[.int .u8 0,.slice none 0 0,.slice none 0 0],.int .i64 91]) ?_ rfl ⟨HE.out,_,_,_,_,_,_,_,_,rfl,(by decide:(91:Int)≠0)⟩
     simp[results,Tryz.results48,go_sem,r0,r1,r2]
    |some n=>
     obtain⟨t,A5,la5,ca5,K5,lk5,ck5,rfl,hn⟩:=hpost
     obtain⟨r0,r1,r2,hB⟩:=res3 (y0:=.int .u8 t) (y1:=.slice A5 la5 ca5) (y2:=.slice K5 lk5 ck5) (Nat.le_succ _) hB4 p4
     have hn2:=res3_nd (b:=w.heap.size+1) (y0:=.int .u8 t) (y1:=.slice A5 la5 ca5) (y2:=.slice K5 lk5 ck5) (fun g hg=>by omega) hn
     have f0:=fh_ p4 0
     have f1:=fh_ p4 1
     have f2:=fh_ p4 2
     have s0:=(ch_ p4 0).trans rfl
     have s1:=(ch_ p4 1).trans rfl
     have s2:=(ch_ p4 2).trans rfl
     have HE:=hd_ (ai_ hB (NdC.mono (B':=fun g=>w.heap.size≤g) (fun g hg=>by omega) _ _ _ _ hn2))
     clear hB hB4 p4 hb4 hlt HK HB hn hn2
     go_wp2_with fail
     refine bodyPost_ret (v:=.tuple #[.agg #[.int .u8 t,.slice A5 la5 ca5,.slice K5 lk5 ck5],.int .i64 0]) ?_ rfl ⟨HE.out.1,_,_,_,_,_,_,_,_,rfl,rfl,HE.out.2⟩
     simp[results,Tryz.results48,go_sem,r0,r1,r2]
end Go.Proofs.YtkjkhoglkpepiaaGreatDoor.nmc
namespace Go.Proofs.YtkjkhoglkpepiaaGreatDoor.nmc
open Go.RowKit tlvc tlvd ndc txc txm intc intm
theorem nameF_no {l:List At}(h:8<l.length):nameF l=none:=by
  unfold nameF rightN
  rw[decide_eq_false (by omega: ¬l.length≤8)]
  rfl
theorem nameF_seq {l:List At}(h:l.length≤8):nameF l=(seqF attrF l).map (.mk 48 []):=by
  rw[seqF_attr]
  unfold nameF rightN
  rw[decide_eq_true h,Bool.true_and]
  cases l.all attrOK<;>rfl
theorem put_any (B:Nat→Prop)(A:Option Addr)(len cap:Nat)(xs:List At)(w:World)(hl:xs.length=len)(hL:Lst atE B w A xs)(hc:len≤cap)(hm:cap≤maxLen)(hT:Tabs w):
    Calls Tryz.prog 21 #[.slice A len cap] w (NPost0 (fun g=>w.heap.size≤g) w (nameF xs)):=by
  obtain⟨W0,hW0⟩:=nm_ (w.alloc (.cells #[.int .u8 0,.slice none 0 0,.slice none 0 0] 43))
  have hb0:Below w.heap.size w W0:=by rw[←hW0];exact below_new _ _
  have p0:W0.heap[w.heap.size]? =some (.cells #[.int .u8 0,.slice none 0 0,.slice none 0 0] 43):=by rw[←hW0];exact heap_new_ _ _
  have hz0:W0.heap.size=w.heap.size+1:=by rw[←hW0];simp
  by_cases hbad:8<len
  · rw[nameF_no (by omega)]
    obtain⟨r0,r1,r2,hB⟩:=res3 (y0:=.int .u8 0) (y1:=.slice none 0 0) (y2:=.slice none 0 0) (lr_ _) hb0 p0
    have f0:=fh_ p0 0
    have f1:=fh_ p0 1
    have f2:=fh_ p0 2
    have s0:=(ch_ p0 0).trans rfl
    have s1:=(ch_ p0 1).trans rfl
    have s2:=(ch_ p0 2).trans rfl
    have HE:=hd_ hB
    have hbz:(8:Int)< (len:Int):=by omega
    clear hB hb0 p0 hz0 hT hL
    go_enter Tryz.func21,Tryz.ntmps21
    go_wp2_with fail
    refine bodyPost_ret (v:=.tuple #[.agg #[.int .u8 0,.slice none 0 0,.slice none 0 0],.int .i64 91]) ?_ rfl ⟨HE.out,rfl⟩
    simp[results,Tryz.results21,go_sem,r0,r1,r2]
  · rw[nameF_seq (by omega)]
    have hbz: ¬(8:Int)< (len:Int):=by omega
    have hent:=enters_of Tryz.func48 (by kernel_rfl) rfl
    have hcall:=seqOf_attr (fun _=>False) B attrF 48 A len cap xs W0 (fun g h=>h.elim) hl (hL.below hb0) hc hm (by omega) hent
      (fun x hx W hW c0 c1 hold=>(putAttr_any x B c0 c1 W hold (hT.below (below_then hb0 hW (lr_ _)))).mono fun e w' h=>NPost.mono (fun g hg=>.inr hg) h)
    obtain⟨R,hR⟩:=nm_ ((seqF attrF xs).map (Nd.mk 48 []))
    rw[hR] at hcall⊢
    have HC:=hd_ hcall
    have HB:=hd_ (ai_ hb0 (ai_ p0 hz0))
    clear hcall hR hent hb0 p0 hz0 hT hL
    go_enter Tryz.func21,Tryz.ntmps21
    go_wp2_with fail
    refine HC.out.mono ?_
    rintro e w4 ⟨hb4,hpost⟩
    have p4:=(hb4.block w.heap.size (by have:=HB.out.2.2;omega)).trans HB.out.2.1
    have hB4:=below_then HB.out.1 hb4 (lr_ _)
    have hz:=HB.out.2.2
    cases R with
    |none=>
     have hpost:e=_:=hpost
     subst hpost
     obtain⟨r0,r1,r2,hB⟩:=res3 (y0:=.int .u8 0) (y1:=.slice none 0 0) (y2:=.slice none 0 0) (lr_ _) hB4 p4
     have f0:=fh_ p4 0
     have f1:=fh_ p4 1
     have f2:=fh_ p4 2
     have s0:=(ch_ p4 0).trans rfl
     have s1:=(ch_ p4 1).trans rfl
     have s2:=(ch_ p4 2).trans rfl
     have HE:=hd_ hB
     clear hB hB4 p4 hb4 HC HB hz
     go_wp2_with fail
     refine bodyPost_ret (v:=.tuple #[.agg #[.int .u8 0,.slice none 0 0,.slice none 0 0],.int .i64 91]) ?_ rfl ⟨HE.out,rfl⟩
     simp[results,Tryz.results21,go_sem,r0,r1,r2]
    |some n=>
     obtain⟨t,A5,la5,ca5,K5,lk5,ck5,rfl,hn⟩:=hpost
     obtain⟨r0,r1,r2,hB⟩:=res3 (y0:=.int .u8 t) (y1:=.slice A5 la5 ca5) (y2:=.slice K5 lk5 ck5) (lr_ _) hB4 p4
     have hn2:=res3_nd (b:=w.heap.size) (y0:=.int .u8 t) (y1:=.slice A5 la5 ca5) (y2:=.slice K5 lk5 ck5) (fun g hg=>by rcases hg with hg |hg;exact hg.elim;omega) hn
     have f0:=fh_ p4 0
     have f1:=fh_ p4 1
     have f2:=fh_ p4 2
     have s0:=(ch_ p4 0).trans rfl
     have s1:=(ch_ p4 1).trans rfl
     have s2:=(ch_ p4 2).trans rfl
     have HE:=hd_ (ai_ hB (NdC.mono (B':=fun g=>w.heap.size≤g) (fun g hg=>by rcases hg with hg |hg;exact hg.elim;omega) _ _ _ _ hn2))
     clear hB hB4 p4 hb4 HC HB hn hn2 hz
     go_wp2_with fail
     refine bodyPost_ret (v:=.tuple #[.agg #[.int .u8 t,.slice A5 la5 ca5,.slice K5 lk5 ck5],.int .i64 0]) ?_ rfl ⟨HE.out.1,_,_,_,_,_,_,_,rfl,HE.out.2⟩
     simp[results,Tryz.results21,go_sem,r0,r1,r2]
theorem princF_no {p:Pr}(h:p.names.length=0∨8<p.names.length):princF p=none:=by
  unfold princF rightP
  rcases h with h |h
  · rw[decide_eq_false (by omega: ¬1≤p.names.length),Bool.and_false];rfl
  · rw[decide_eq_false (by omega: ¬p.names.length≤8),Bool.and_false];rfl
theorem princF_ways {p:Pr}(h1:1≤p.names.length)(h2:p.names.length≤8):princF p=match wordF p.realm,seqF wordF p.names with |some a,some l=>some (.mk 48 [] [a,.mk 48 [] l]) |_,_=>none:=by
  rw[seqF_word]
  unfold princF rightP wordF
  rw[decide_eq_true h1,decide_eq_true h2,Bool.and_true,Bool.and_true]
  cases wordOK p.realm<;>cases p.names.all wordOK<;>rfl

theorem two_nodes {S:Nat→Prop}{W:World}{g:Nat}{a b:Nd}{a0 a1 a2 b0 b1 b2:Value}{T:TypeId}{fr:Nat × Nat}(hp:W.heap[g]? =some (.cells #[a0,a1,a2,b0,b1,b2] T fr))(hg:S g)(ha:NdC S W a a0 a1 a2)(hb:NdC S W b b0 b1 b2):Lst ndE S W (some ⟨g,0,none⟩) [a,b]:=fun _=>⟨g,0,rfl,(Array.getElem?_eq_some_iff.1 hp).1,hg,fun i hi=>by
  match i,hi with
  |0,_=>exact⟨[a0,a1,a2],fun j u hu=>by
      rw[ch_ hp]
      match j,hu with
      |0,hu=>exact hu
      |1,hu=>exact hu
      |2,hu=>exact hu
      |j+3,hu=>simp at hu,_,_,_,rfl,ha⟩
  |1,_=>exact⟨[b0,b1,b2],fun j u hu=>by
      rw[ch_ hp]
      match j,hu with
      |0,hu=>exact hu
      |1,hu=>exact hu
      |2,hu=>exact hu
      |j+3,hu=>simp at hu,_,_,_,rfl,hb⟩⟩
theorem putPrinc_any (B:Nat→Prop)(p:Pr)(c0 c1:Value)(w:World)(hp:PrC B w p c0 c1)(hT:Tabs w):
    Calls Tryz.prog 128 #[.agg #[c0,c1]] w (NPost0 (fun g=>w.heap.size≤g) w (princF p)):=by
  obtain⟨A,cap,rfl,rfl,hc,hm,hL,hs⟩:=hp
  obtain⟨len,hlen⟩:=nm_ (p.names.length)
  obtain⟨s,hs0⟩:=nm_ (p.realm)
  rw[hlen] at hc
  rw[hs0] at hs
  obtain⟨W0,hW0⟩:=nm_ ((w.alloc (.cells #[.string s,.slice A len cap] 117)).alloc (.cells #[.int .u8 0,.slice none 0 0,.slice none 0 0] 43))
  have hb0:Below w.heap.size w W0:=by rw[←hW0];exact(below_new _ _).alloc (by simp) _
  have p0:W0.heap[w.heap.size+1]? =some (.cells #[.int .u8 0,.slice none 0 0,.slice none 0 0] 43):=by rw[←hW0];exact heap_is (by simp)
  have q0:W0.heap[w.heap.size]? =some (.cells #[.string s,.slice A len cap] 117):=by rw[←hW0,heap_old_ _ _ (by simp)];exact heap_new_ _ _
  have hz0:W0.heap.size=w.heap.size+2:=by rw[←hW0];simp
  have b0:W0.cell? ⟨w.heap.size,0,none⟩=some (.string s):=(ch_ q0 _).trans rfl
  have b1:W0.cell? ⟨w.heap.size,1,none⟩=some (.slice A len cap):=(ch_ q0 _).trans rfl
  rw[hlen]
  by_cases hbad:len=0∨8<len
  · rw[princF_no (by rw[hlen];exact hbad)]
    obtain⟨r0,r1,r2,hB⟩:=res3 (y0:=.int .u8 0) (y1:=.slice none 0 0) (y2:=.slice none 0 0) (Nat.le_succ _) hb0 p0
    have f0:=fh_ p0 0
    have f1:=fh_ p0 1
    have f2:=fh_ p0 2
    have s0:=(ch_ p0 0).trans rfl
    have s1:=(ch_ p0 1).trans rfl
    have s2:=(ch_ p0 2).trans rfl
    have HE:=hd_ hB
    clear hB hb0 p0 q0 hz0 hT hL hlen
    rcases hbad with hbad |hbad
    · subst hbad
      go_enter Tryz.func128,Tryz.ntmps128
      go_wp2_with fail
      refine bodyPost_ret (v:=.tuple #[.agg #[.int .u8 0,.slice none 0 0,.slice none 0 0],.int .i64 91]) ?_ rfl ⟨HE.out,rfl⟩
      simp[results,Tryz.results128,go_sem,r0,r1,r2]
    · have hb1:((len:Int)==0)=false:=by rw[beq_eq_false_iff_ne];omega
      have hb2: ¬(len:Int)=0:=by omega
      have hb3:(8:Int)< (len:Int):=by omega
      go_enter Tryz.func128,Tryz.ntmps128
      go_wp2_with fail
      refine bodyPost_ret (v:=.tuple #[.agg #[.int .u8 0,.slice none 0 0,.slice none 0 0],.int .i64 91]) ?_ rfl ⟨HE.out,rfl⟩
      simp[results,Tryz.results128,go_sem,r0,r1,r2]
  · have hb1:((len:Int)==0)=false:=by rw[beq_eq_false_iff_ne];omega
    have hb2: ¬(len:Int)=0:=by omega
    have hb3: ¬(8:Int)< (len:Int):=by omega
    rw[princF_ways (by omega) (by omega),hs0]
    have hent:=enters_of Tryz.func179 (by kernel_rfl) rfl
    have hgen:=general_any s W0 hs (hT.below hb0)
    obtain⟨rr,hrr⟩:=nm_ (wordF s)
    rw[hrr] at hgen⊢
    obtain⟨rs,hrs⟩:=nm_ (seqF wordF p.names)
    rw[hrs]
    have hseq: ∀W,Below W0.heap.size W0 W→Calls Tryz.prog 180 #[.slice A len cap,.func (.func 179) #[] #[]] W (NPost0 (fun g=>W.heap.size≤g) W (rs.map (Nd.mk 48 []))):=fun W hW=>by
      have hBW:=below_then hb0 hW (lr_ _)
      have h:=seqOf_text (fun _=>False) B wordF 179 A len cap p.names W (fun g h=>h.elim) hlen (hL.below hBW) hc hm (by omega) hent
        (fun x hx W' hW' c0 hold=>by
          obtain⟨e,hsz⟩:=hold
          simp only[List.cons.injEq,and_true] at e
          subst e
          exact(general_any x W' hsz (hT.below (below_then hBW hW' (lr_ _)))).mono fun e w' h=>NPost.mono (fun g hg=>.inr hg) h)
      rw[hrs] at h
      exact h.mono fun e w' h=>NPost0.mono (fun g hg=>hg.elim False.elim id) h
    have HC:=hd_ hgen
    have HS:=hd_ hseq
    have hat: ∀W,Below W0.heap.size W0 W→W.heap[w.heap.size+1]? =some (.cells #[.int .u8 0,.slice none 0 0,.slice none 0 0] 43)∧Below w.heap.size w W∧W.cell? ⟨w.heap.size,1,none⟩=some (.slice A len cap):=fun W hW=>
      ⟨(hW.block _ (by omega)).trans p0,below_then hb0 hW (lr_ _),(hW.cell (p:=⟨w.heap.size,1,none⟩) (by show w.heap.size<_;omega)).trans b1⟩
    have HA:=hd_ (ai_ hat hz0)
    clear hgen hseq hat hent hb0 p0 q0 hz0 hT hL hlen hrr hrs hs hbad
    go_enter Tryz.func128,Tryz.ntmps128
    go_wp2_with fail
    refine HC.out.mono ?_
    rintro e w1 ⟨hb4,t,A1,l1,k1,K1,m1,n1,er,rfl,hpost⟩
    have HP:=hd_ hpost
    have hbx:=below_then hb4 (below_new w1 (.cells #[.int .u8 t,.slice A1 l1 k1,.slice K1 m1 n1] 43)) (lr_ _)
    obtain⟨p1,hB1,c1⟩:=HA.out.1 _ hbx
    have hcall:=HS.out _ hbx
    have HK:=hd_ hcall
    have HX:=hd_ (ai_ hbx hb4)
    clear hpost hcall p1 hB1 hbx hb4 HC HS
    go_wp2_with fail
    refine HK.out.mono ?_
    rintro e w2 ⟨hb5,hpost2⟩
    have hbx2:=below_then HX.out.1 hb5 (lr_ _)
    have hq:w2.heap[w1.heap.size]? =some (.cells #[.int .u8 t,.slice A1 l1 k1,.slice K1 m1 n1] 43):=(hb5.block _ (by rw[size_new];omega)).trans (heap_new_ _ _)
    cases rs with
    |none=>
     have hpost2:e=_:=hpost2
     subst hpost2
     have hbx3:=below_then hbx2 (below_new w2 (.cells #[.int .u8 0,.slice none 0 0,.slice none 0 0] 43)) (lr_ _)
     obtain⟨p3,hB3,_⟩:=HA.out.1 _ hbx3
     obtain⟨r0,r1,r2,hB⟩:=res3 (y0:=.int .u8 0) (y1:=.slice none 0 0) (y2:=.slice none 0 0) (Nat.le_succ _) hB3 p3
     have f0:=fh_ p3 0
     have f1:=fh_ p3 1
     have f2:=fh_ p3 2
     have s0:=(ch_ p3 0).trans rfl
     have s1:=(ch_ p3 1).trans rfl
     have s2:=(ch_ p3 2).trans rfl
     have HE:=hd_ hB
     clear hB hB3 p3 hb5 hbx2 hbx3 hq HK HX HA HP
     by_cases her:er=0
     · subst her
       go_wp2_with fail
       refine bodyPost_ret (v:=.tuple #[.agg #[.int .u8 0,.slice none 0 0,.slice none 0 0],.int .i64 91]) ?_ rfl ⟨HE.out,by cases rr<;>rfl⟩
       simp[results,Tryz.results128,go_sem,r0,r1,r2]
     · have hne:(er==0)=false:=by simpa using her
       go_wp2_with fail
       refine bodyPost_ret (v:=.tuple #[.agg #[.int .u8 0,.slice none 0 0,.slice none 0 0],.int .i64 91]) ?_ rfl ⟨HE.out,by cases rr<;>rfl⟩
       simp[results,Tryz.results128,go_sem,r0,r1,r2]
    |some l=>
     obtain⟨t5,A5,la5,ca5,K5,lk5,ck5,rfl,hn⟩:=hpost2
     have hbx3:=below_then hbx2 (below_new w2 (.cells #[.int .u8 t5,.slice A5 la5 ca5,.slice K5 lk5 ck5] 43)) (lr_ _)
     obtain⟨p3,hB3,_⟩:=HA.out.1 _ hbx3
     cases rr with
     |none=>
      have her:er≠0:=HP.out
      have hne:(er==0)=false:=by simpa using her
      obtain⟨r0,r1,r2,hB⟩:=res3 (y0:=.int .u8 0) (y1:=.slice none 0 0) (y2:=.slice none 0 0) (Nat.le_succ _) hB3 p3
      have f0:=fh_ p3 0
      have f1:=fh_ p3 1
      have f2:=fh_ p3 2
      have s0:=(ch_ p3 0).trans rfl
      have s1:=(ch_ p3 1).trans rfl
      have s2:=(ch_ p3 2).trans rfl
      have HE:=hd_ hB
      clear hB hB3 p3 hb5 hbx2 hbx3 hq HK HX HA HP hn
      go_wp2_with fail
      refine bodyPost_ret (v:=.tuple #[.agg #[.int .u8 0,.slice none 0 0,.slice none 0 0],.int .i64 91]) ?_ rfl ⟨HE.out,rfl⟩
      simp[results,Tryz.results128,go_sem,r0,r1,r2]
     |some n=>
      obtain⟨rfl,hna⟩:=HP.out
      obtain⟨W3,hW3⟩:=nm_ (w2.alloc (.cells #[.int .u8 t5,.slice A5 la5 ca5,.slice K5 lk5 ck5] 43))
      obtain⟨W4,hW4⟩:=nm_ (W3.alloc (.cells #[.int .u8 t,.slice A1 l1 k1,.slice K1 m1 n1,.int .u8 t5,.slice A5 la5 ca5,.slice K5 lk5 ck5] 43))
      have z1:=HX.out.2.size
      have z2:=hb5.size
      rw[size_new] at z2
      have z0:=HA.out.2
      have z3:W3.heap.size=w2.heap.size+1:=by rw[←hW3];simp
      have hb34:Below W3.heap.size W3 W4:=by rw[←hW4];exact below_new _ _
      rw[hW3] at hB3 p3 hbx3
      have hB4:=below_then hB3 hb34 (lr_ _)
      have p4:=(hb34.block _ (by omega)).trans p3
      have p5:W4.heap[W3.heap.size]? =some (.cells #[.int .u8 t,.slice A1 l1 k1,.slice K1 m1 n1,.int .u8 t5,.slice A5 la5 ca5,.slice K5 lk5 ck5] 43):=by rw[←hW4];exact heap_new_ _ _
      have h13:Below w1.heap.size w1 W3:=by
        have:=below_then (below_new w1 (.cells #[.int .u8 t,.slice A1 l1 k1,.slice K1 m1 n1] 43)) hb5 (lr_ _)
        rw[←hW3]
        exact below_then this (below_new _ _) (lr_ _)
      have h23:Below w2.heap.size w2 W3:=by rw[←hW3];exact below_new _ _
      have na:NdC (fun g=>w.heap.size+2≤g) W4 n (.int .u8 t) (.slice A1 l1 k1) (.slice K1 m1 n1):=NdC.mono (fun g hg=>by omega) _ _ _ _ (NdC.below hb34 _ _ _ _ (NdC.below h13 _ _ _ _ hna))
      have nb:NdC (fun g=>w.heap.size+2≤g) W4 (.mk 48 [] l) (.int .u8 t5) (.slice A5 la5 ca5) (.slice K5 lk5 ck5):=NdC.mono (fun g hg=>by rw[size_new] at hg;omega) _ _ _ _ (NdC.below hb34 _ _ _ _ (NdC.below h23 _ _ _ _ hn))
      have hnd:NdC (fun g=>w.heap.size+2≤g) W4 (.mk 48 [] [n,.mk 48 [] l]) (.int .u8 48) (.slice none 0 0) (.slice (some ⟨W3.heap.size,0,none⟩) 2 2):=ndC_of (by omega) (lr_ _) (by unfold maxLen;decide) (two_nodes p5 (by omega) na nb)
      obtain⟨r0,r1,r2,hB⟩:=res3 (y0:=.int .u8 48) (y1:=.slice none 0 0) (y2:=.slice (some ⟨W3.heap.size,0,none⟩) 2 2) (Nat.le_succ _) hB4 p4
      have hn2:=res3_nd (b:=w.heap.size+1) (y0:=.int .u8 48) (y1:=.slice none 0 0) (y2:=.slice (some ⟨W3.heap.size,0,none⟩) 2 2) (fun g hg=>by omega) hnd
      have f0:=fh_ p4 0
      have f1:=fh_ p4 1
      have f2:=fh_ p4 2
      have s0:=(ch_ p4 0).trans rfl
      have s1:=(ch_ p4 1).trans rfl
      have s2:=(ch_ p4 2).trans rfl
      have q3:W3.heap[w1.heap.size]? =some (.cells #[.int .u8 t,.slice A1 l1 k1,.slice K1 m1 n1] 43):=(h23.block _ (by omega)).trans hq
      have u0:=(ch_ q3 0).trans rfl
      have u1:=(ch_ q3 1).trans rfl
      have u2:=(ch_ q3 2).trans rfl
      have q4:W3.heap[w2.heap.size]? =some (.cells #[.int .u8 t5,.slice A5 la5 ca5,.slice K5 lk5 ck5] 43):=by rw[←hW3];exact heap_new_ _ _
      have x0:=(ch_ q4 0).trans rfl
      have x1:=(ch_ q4 1).trans rfl
      have x2:=(ch_ q4 2).trans rfl
      have HE:=hd_ (ai_ hB (NdC.mono (B':=fun g=>w.heap.size≤g) (fun g hg=>by omega) _ _ _ _ hn2))
      clear hB hB3 hB4 p3 p4 p5 hb5 hbx2 hbx3 hq HK HX HA HP hn hna na nb hnd hn2 q3 q4 h13 h23 hb34 z0 z1 z2 z3
      go_wp2_with fail
      refine bodyPost_ret (v:=.tuple #[.agg #[.int .u8 48,.slice none 0 0,.slice (some ⟨W3.heap.size,0,none⟩) 2 2],.int .i64 0]) ?_ rfl ⟨HE.out.1,_,_,_,_,_,_,_,rfl,HE.out.2⟩
      simp[results,Tryz.results128,go_sem,r0,r1,r2]
end Go.Proofs.YtkjkhoglkpepiaaGreatDoor.nmc
