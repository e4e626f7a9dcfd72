/- The program's object; its kinds: the five known extensions w -/
import Derived.Test.YtkjkhoglkpepiaaGreatDoorAk
set_option maxRecDepth 100000
set_option maxHeartbeats 8000000
set_option linter.unusedVariables false
set_option linter.unusedSimpArgs false
namespace Go.Proofs.YtkjkhoglkpepiaaGreatDoor.nmc
open Go.RowKit tlvc tlvd ndc txc txm intc intm
def saysId (i:Nat):FuncId:=[108,114,118,125,133].getD i 0
def readId (i:Nat):FuncId:=[112,116,121,129,136].getD i 0
def kindRow (q:Nat)(A0 A1 A2 A3 A4:Option Addr)(c0 c1 c2 c3 c4:Nat)(t0 t1 t2 t3 t4:Bool):Array Value:=
 #[.slice A0 4 c0,.bool true,.bool t0,.func (.func 108) #[] #[.pointer (some ⟨q,0,none⟩)],.func (.func 112) #[] #[.pointer (some ⟨q,0,none⟩)],
  .slice A1 4 c1,.bool true,.bool t1,.func (.func 114) #[] #[.pointer (some ⟨q,0,none⟩)],.func (.func 116) #[] #[.pointer (some ⟨q,0,none⟩)],
  .slice A2 4 c2,.bool false,.bool t2,.func (.func 118) #[] #[.pointer (some ⟨q,0,none⟩)],.func (.func 121) #[] #[.pointer (some ⟨q,0,none⟩)],
  .slice A3 4 c3,.bool false,.bool t3,.func (.func 125) #[] #[.pointer (some ⟨q,0,none⟩)],.func (.func 129) #[] #[.pointer (some ⟨q,0,none⟩)],
  .slice A4 4 c4,.bool true,.bool t4,.func (.func 133) #[] #[.pointer (some ⟨q,0,none⟩)],.func (.func 136) #[] #[.pointer (some ⟨q,0,none⟩)]]
structure Kinds (B0:Nat) (w:World) (p:Nat) (x:Ex) (G q:Nat):Prop where
 hG:B0≤G
 hq:B0≤q
 gl:G<w.heap.size
 box:w.heap[q]? =some (.cells #[.pointer (some ⟨p,0,none⟩)] 95)
 row: ∀i,i<5→∃A c,InC (fun g=>B0≤g) w (koid i) (.slice A 4 c)∧w.cell? ⟨G,i*5,none⟩=some (.slice A 4 c)∧w.cell? ⟨G,i*5+1,none⟩=some (.bool (kcrit i))∧w.cell? ⟨G,i*5+2,none⟩=some (.bool (kthere x i))∧
  w.cell? ⟨G,i*5+3,none⟩=some (.func (.func (saysId i)) #[] #[.pointer (some ⟨q,0,none⟩)])∧w.cell? ⟨G,i*5+4,none⟩=some (.func (.func (readId i)) #[] #[.pointer (some ⟨q,0,none⟩)])
theorem tk7_ {P:Program}{ops:Array Oper}{Q:Exit→Act→World→Prop}{md:Region.Mode}{S:World→Prop}{i:Nat}{oi:Oper}{v:Value}{fuel:Nat}{listed l':Array Bool}{a a':Act}{w:World}(hi:ops[i]? =some oi:=by rfl)(hs:Region.noSelect ops=true:=by kernel_rfl)(hf:Region.free md ops listed i=true:=by kernel_rfl)(hr:(Region.ready md ops listed).contains i=true:=by kernel_rfl)
 (hQ: ∀c a w,Q (.panic c) (a.put oi.dst v) w→Q (.panic c) a w:=by exact fun _ _ _ h=>h)
 (y:YieldsIf P ops S oi v a:=by
  refine Or.inl ⟨by rfl,?_⟩
  intro wS hSw
  (first |obtain⟨c1,c2,c3,c4,c5,c6,c7⟩:=hSw |skip)
  go_simp
  (try with_reducible rfl)
  done) (hS:S w:=by assumption)
 (el:listed.setIfInBounds i true=l':=by first | (simp only[qa_,qb_,qc_];done) |rfl)
 (ea:a.put oi.dst v=a':=by first | (simp only[Act.put,qa_,qb_,qc_];done) |rfl)
 (z:wpAnyH P md ops Q S fuel l' a' w):wpAnyH P md ops Q S (fuel+1) listed a w:=wpAnyH_take hi hs hf hr hQ y hS (by rw[el,ea];exact z)
theorem Kinds.on {B0:Nat}{w w':World}{p:Nat}{x:Ex}{G q:Nat}(h:Kinds B0 w p x G q)(hs:w.heap.size≤w'.heap.size)(hk: ∀g,B0≤g→g<w.heap.size→w'.heap[g]? =w.heap[g]?):Kinds B0 w' p x G q:=by
 refine⟨h.hG,h.hq,Nat.lt_of_lt_of_le h.gl hs,(hk q h.hq (Array.getElem?_eq_some_iff.1 h.box).1).trans h.box,fun i hi=>?_⟩
 obtain⟨A,c,h1,h2,h3,h4,h5,h6⟩:=h.row i hi
 have k:=fun {o:Nat} {v:Value} (e:w.cell? ⟨G,o,none⟩=some v)=>(World.cell?_of_block (a:=⟨G,o,none⟩) (hk G h.hG h.gl)).trans e
 exact⟨A,c,h1.stays ⟨hs,fun a ha hl=>World.cell?_of_block (hk _ ha hl)⟩,k h2,k h3,k h4,k h5,k h6⟩
theorem Kinds.below {B0:Nat}{w w':World}{p:Nat}{x:Ex}{G q:Nat}(h:Kinds B0 w p x G q)(hb:Below w.heap.size w w'):Kinds B0 w' p x G q:=h.on hb.size (fun g _ hg=>hb.block g hg)
theorem kinds_of {B0:Nat}{w:World}{p:Nat}{x:Ex}{G q:Nat}{A0 A1 A2 A3 A4:Option Addr}{c0 c1 c2 c3 c4:Nat}{t0 t1 t2 t3 t4:Bool}{T:TypeId}{fr:Nat × Nat}(hG:B0≤G)(hq:B0≤q)(hbox:w.heap[q]? =some (.cells #[.pointer (some ⟨p,0,none⟩)] 95))
 (hrow:w.heap[G]? =some (.cells (kindRow q A0 A1 A2 A3 A4 c0 c1 c2 c3 c4 t0 t1 t2 t3 t4) T fr)) (i0:InC (fun g=>B0≤g) w (koid 0) (.slice A0 4 c0)) (i1:InC (fun g=>B0≤g) w (koid 1) (.slice A1 4 c1)) (i2:InC (fun g=>B0≤g) w (koid 2) (.slice A2 4 c2)) (i3:InC (fun g=>B0≤g) w (koid 3) (.slice A3 4 c3)) (i4:InC (fun g=>B0≤g) w (koid 4) (.slice A4 4 c4))
 (e0:t0=kthere x 0) (e1:t1=kthere x 1) (e2:t2=kthere x 2) (e3:t3=kthere x 3) (e4:t4=kthere x 4):Kinds B0 w p x G q:=by
 subst e0 e1 e2 e3 e4
 refine⟨hG,hq,(Array.getElem?_eq_some_iff.1 hrow).1,hbox,fun i hi=>?_⟩
 have hc:=fun o=>ch_ hrow o
 match i,hi with
 |0,_=>exact⟨A0,c0,i0,(hc _).trans rfl,(hc _).trans rfl,(hc _).trans rfl,(hc _).trans rfl,(hc _).trans rfl⟩
 |1,_=>exact⟨A1,c1,i1,(hc _).trans rfl,(hc _).trans rfl,(hc _).trans rfl,(hc _).trans rfl,(hc _).trans rfl⟩
 |2,_=>exact⟨A2,c2,i2,(hc _).trans rfl,(hc _).trans rfl,(hc _).trans rfl,(hc _).trans rfl,(hc _).trans rfl⟩
 |3,_=>exact⟨A3,c3,i3,(hc _).trans rfl,(hc _).trans rfl,(hc _).trans rfl,(hc _).trans rfl,(hc _).trans rfl⟩
 |4,_=>exact⟨A4,c4,i4,(hc _).trans rfl,(hc _).trans rfl,(hc _).trans rfl,(hc _).trans rfl,(hc _).trans rfl⟩
theorem object_any (k:Int)(hk:0≤k∧k≤1000)(w:World):Calls Tryz.prog 107 #[.int .i64 k] w fun e w'=>∃A c,e=.returned (.slice A 4 c)∧InC (fun g=>w.heap.size≤g) w' [2,5,29,k] (.slice A 4 c)∧Below w.heap.size w w':=by
 have hin:Ins (w.alloc (.cells #[.int .i64 2,.int .i64 5,.int .i64 29,.int .i64 k] 3)) (some ⟨w.heap.size,0,none⟩) 4 [2,5,29,k]:=ins_new (xs:=[2,5,29,k]) rfl (fun y hy=>by
  simp only[List.mem_cons,List.mem_nil_iff,or_false] at hy
  omega) rfl rfl
 have HE:=hd_ (ai_ (show InC (fun g=>w.heap.size≤g) (w.alloc (.cells #[.int .i64 2,.int .i64 5,.int .i64 29,.int .i64 k] 3)) [2,5,29,k] (.slice (some ⟨w.heap.size,0,none⟩) 4 4) from⟨_,4,4,rfl,lr_ _,by unfold maxLen;decide,hin,fun _ g off sp e=>by cases e;exact lr_ _⟩) (below_new w (.cells #[.int .i64 2,.int .i64 5,.int .i64 29,.int .i64 k] 3)))
 clear hin hk
 go_enter Tryz.func107,Tryz.ntmps107
 go_wp2
 go_ret
 exact⟨_,_,rfl,HE.out.1,HE.out.2⟩
theorem kinds_any (B:Nat→Prop)(x:Ex)(p:Nat)(c0 c1 c2 c3 c4 c5 c6 c7 c8:Value)(w:World)(hp:w.heap[p]? =some (.cells #[c0,c1,c2,c3,c4,c5,c6,c7,c8] 30))(hx:ExC B w x c0 c1 c2 c3 c4 c5 c6 c7 c8):
 Calls Tryz.prog 56 #[.pointer (some ⟨p,0,none⟩)] w fun e w'=>Below w.heap.size w w'∧∃G q,e=.returned (.slice (some ⟨G,0,none⟩) 5 5)∧Kinds w.heap.size w' p x G q:=by
 have mixed:Tryz.prog.follows Departure.mixedOrders=true:=by kernel_rfl
 have hmf: ∀(fn:Fn) (first cap:Array Value) (w:World),(Instr.makeFunc fn first cap).run Tryz.prog w=.ok (.func fn first cap) w:=fun _ _ _ _=>rfl
 obtain⟨W0,hW0⟩:=nm_ (w.alloc (.cells #[.pointer (some ⟨p,0,none⟩)] 95))
 have hb0:Below w.heap.size w W0:=by rw[←hW0];exact below_new _ _
 have q0:W0.heap[w.heap.size]? =some (.cells #[.pointer (some ⟨p,0,none⟩)] 95):=by rw[←hW0];exact heap_new_ _ _
 have hX:XB B W0 w.heap.size p x c0 c1 c2 c3 c4 c5 c6 c7 c8:=⟨q0,(hb0.block _ (Array.getElem?_eq_some_iff.1 hp).1).trans hp,hx.below hb0⟩
 obtain⟨A4,k4,rfl,_⟩:=hx.eku
 obtain⟨A5,k5,rfl,_⟩:=hx.princs
 obtain⟨A6,k6,rfl,_⟩:=hx.permit
 obtain⟨A7,k7,rfl,_⟩:=hx.exclude
 obtain⟨L4,hL4⟩:=nm_ (x.eku.length)
 obtain⟨L5,hL5⟩:=nm_ (x.princs.length)
 obtain⟨L6,hL6⟩:=nm_ (x.permit.length)
 obtain⟨L7,hL7⟩:=nm_ (x.exclude.length)
 obtain⟨us,hus⟩:=nm_ (x.usage)
 obtain⟨h0,hh0⟩:=nm_ (x.hasCA)
 have HX:Hid (∀W,Below W0.heap.size W0 W→W.cell? ⟨w.heap.size,0,none⟩=some (.pointer (some ⟨p,0,none⟩))∧W.cell? ⟨p,0,none⟩=some (.bool h0)∧W.cell? ⟨p,3,none⟩=some (.int .u16 us)∧W.cell? ⟨p,4,none⟩=some (.slice A4 L4 k4)∧W.cell? ⟨p,5,none⟩=some (.slice A5 L5 k5)∧W.cell? ⟨p,6,none⟩=some (.slice A6 L6 k6)∧W.cell? ⟨p,7,none⟩=some (.slice A7 L7 k7)):=hd_ fun W hW=>by
  obtain⟨e,e0,_,_,e3,e4,e5,e6,e7,_⟩:=(hX.below hW).cells
  rw[hX.x.has,hh0] at e0
  rw[hX.x.usage,hus] at e3
  rw[hL4] at e4
  rw[hL5] at e5
  rw[hL6] at e6
  rw[hL7] at e7
  exact⟨e,e0,e3,e4,e5,e6,e7⟩
 obtain⟨d0,d1,d3,d4,d5,d6,d7⟩:=HX.out W0 (br_ _ _)
 obtain⟨ub,hub⟩:=nm_ (decide (us≠0))
 have hub2:(us !=0)=ub:=by rw[←hub,Bool.eq_iff_iff];simp
 obtain⟨b4,hb4⟩:=nm_ (decide (0<L4))
 have hb42:decide ((0:Int)< (L4:Int))=b4:=by rw[←hb4];exact decide_eq_decide.2 (by omega)
 obtain⟨b5,hb5⟩:=nm_ (decide (0<L5))
 have hb52:decide ((0:Int)< (L5:Int))=b5:=by rw[←hb5];exact decide_eq_decide.2 (by omega)
 obtain⟨b6,hb6⟩:=nm_ (decide (0<L6))
 have hb62:decide ((0:Int)< (L6:Int))=b6:=by rw[←hb6];exact decide_eq_decide.2 (by omega)
 obtain⟨b7,hb7⟩:=nm_ (decide (0<L7))
 have hb72:decide ((0:Int)< (L7:Int))=b7:=by rw[←hb7];exact decide_eq_decide.2 (by omega)
 have HTH:=hd_ (show h0=kthere x 0∧ub=kthere x 1∧b4=kthere x 2∧b5=kthere x 3∧(b6 || b7)=kthere x 4 from⟨hh0.symm,by rw[←hub,←hus];rfl,by rw[←hb4,←hL4];rfl,by rw[←hb5,←hL5];rfl,by rw[←hb6,←hb7,←hL6,←hL7];rfl⟩)
 have HB:=hd_ (ai_ hb0 q0)
 have HW0:=hd_ hW0
 have HO:=hd_ (fun(k:Int) (hk:0≤k∧k≤1000) (W:World)=>object_any k hk W)
 clear hb0 q0 hX hx hp hW0 hL4 hL5 hL6 hL7 hus hh0
 cases b6
 ·go_enter Tryz.func56,Tryz.ntmps56
  go_wp2_with fail
  try dsimp only
  (try rw[HW0.out])
  try dsimp only
  refine wp_region_noPanic ?_
  refine wp_region_held_drew (S:=fun wx:World=>wx.cell? ⟨w.heap.size,0,none⟩=some (.pointer (some ⟨p,0,none⟩))∧wx.cell? ⟨p,0,none⟩=some (.bool h0)∧wx.cell? ⟨p,3,none⟩=some (.int .u16 us)∧wx.cell? ⟨p,4,none⟩=some (.slice A4 L4 k4)∧wx.cell? ⟨p,5,none⟩=some (.slice A5 L5 k5)∧wx.cell? ⟨p,6,none⟩=some (.slice A6 L6 k6)∧wx.cell? ⟨p,7,none⟩=some (.slice A7 L7 k7)) mixed ⟨d0,d1,d3,d4,d5,d6,d7⟩ (fun hHeld=>?_)
  have hbd:=below_drew W0
  obtain⟨wd,hwd⟩:=nm_ (W0.drew)
  rw[hwd] at hHeld hbd⊢
  clear hwd
  refine tk7_ (i:=1) (z:=?_)
  refine tk7_ (i:=5) (z:=?_)
  refine tk7_ (i:=6) (z:=?_)
  refine tk7_ (i:=9) (z:=?_)
  refine tk7_ (i:=14) (z:=?_)
  refine tk7_ (i:=15) (z:=?_)
  refine tk7_ (i:=18) (z:=?_)
  refine tk7_ (i:=24) (z:=?_)
  refine tk7_ (i:=25) (z:=?_)
  refine tk7_ (i:=28) (z:=?_)
  refine tk7_ (i:=34) (z:=?_)
  refine tk7_ (i:=35) (z:=?_)
  refine tk7_ (i:=38) (z:=?_)
  refine tk7_ (i:=52) (z:=?_)
  refine tk7_ (i:=53) (z:=?_)
  refine tk7_ (i:=2) (z:=?_)
  refine tk7_ (i:=10) (z:=?_)
  refine tk7_ (i:=19) (z:=?_)
  refine tk7_ (i:=29) (z:=?_)
  refine tk7_ (i:=39) (z:=?_)
  refine tk7_ (i:=3) (z:=?_)
  refine tk7_ (i:=11) (z:=?_)
  refine tk7_ (i:=20) (z:=?_)
  refine tk7_ (i:=30) (z:=?_)
  refine tk7_ (i:=40) (z:=?_)
  refine tk7_ (i:=4) (z:=?_)
  refine tk7_ (i:=12) (z:=?_)
  refine tk7_ (i:=21) (z:=?_)
  refine tk7_ (i:=31) (z:=?_)
  refine tk7_ (i:=41) (z:=?_)
  refine tk7_ (i:=13) (z:=?_)
  refine tk7_ (i:=22) (z:=?_)
  refine tk7_ (i:=32) (z:=?_)
  refine tk7_ (i:=42) (z:=?_)
  refine tk7_ (i:=23) (z:=?_)
  refine tk7_ (i:=33) (z:=?_)
  refine tk7_ (i:=43) (z:=?_)
  refine on_ (i:=0) (z:=fun KK hKK=>?_)
  go_simp
  refine(HO.out 19 (by decide) wd).mono ?_
  rintro e v1 ⟨F0,f0,rfl,hi0,hv1⟩
  dsimp only
  have hw1:=hv1
  have hi0:=hi0.mono (S':=fun g=>w.heap.size≤g) (fun g hg=>by have h1:=hbd.size;have h2:=HB.out.1.size;omega)
  have hv1:=below_then hbd hv1 (lr_ _)
  refine hKK.out _ _ (HX.out _ hv1) (fun hHeld=>?_)
  clear hKK KK
  try simp only[Act.put,qa_,qb_,qc_]
  refine tk7_ (i:=7) (z:=?_)
  refine on_ (i:=8) (z:=fun KK hKK=>?_)
  go_simp
  refine(HO.out 15 (by decide) v1).mono ?_
  rintro e v2 ⟨F1,f1,rfl,hi1,hv2⟩
  dsimp only
  have hw2:=hv2
  have hi1:=hi1.mono (S':=fun g=>w.heap.size≤g) (fun g hg=>by have h1:=hv1.size;have h2:=HB.out.1.size;omega)
  have hv2:=below_then hv1 hv2 (lr_ _)
  refine hKK.out _ _ (HX.out _ hv2) (fun hHeld=>?_)
  clear hKK KK
  try simp only[Act.put,qa_,qb_,qc_]
  refine tk7_ (i:=16) (z:=?_)
  refine on_ (i:=17) (z:=fun KK hKK=>?_)
  go_simp
  refine(HO.out 37 (by decide) v2).mono ?_
  rintro e v3 ⟨F2,f2,rfl,hi2,hv3⟩
  dsimp only
  have hw3:=hv3
  have hi2:=hi2.mono (S':=fun g=>w.heap.size≤g) (fun g hg=>by have h1:=hv2.size;have h2:=HB.out.1.size;omega)
  have hv3:=below_then hv2 hv3 (lr_ _)
  refine hKK.out _ _ (HX.out _ hv3) (fun hHeld=>?_)
  clear hKK KK
  try simp only[Act.put,qa_,qb_,qc_]
  refine tk7_ (i:=26) (z:=?_)
  refine on_ (i:=27) (z:=fun KK hKK=>?_)
  go_simp
  refine(HO.out 17 (by decide) v3).mono ?_
  rintro e v4 ⟨F3,f3,rfl,hi3,hv4⟩
  dsimp only
  have hw4:=hv4
  have hi3:=hi3.mono (S':=fun g=>w.heap.size≤g) (fun g hg=>by have h1:=hv3.size;have h2:=HB.out.1.size;omega)
  have hv4:=below_then hv3 hv4 (lr_ _)
  refine hKK.out _ _ (HX.out _ hv4) (fun hHeld=>?_)
  clear hKK KK
  try simp only[Act.put,qa_,qb_,qc_]
  refine tk7_ (i:=36) (z:=?_)
  refine on_ (i:=37) (z:=fun KK hKK=>?_)
  go_simp
  refine(HO.out 30 (by decide) v4).mono ?_
  rintro e v5 ⟨F4,f4,rfl,hi4,hv5⟩
  dsimp only
  have hw5:=hv5
  have hi4:=hi4.mono (S':=fun g=>w.heap.size≤g) (fun g hg=>by have h1:=hv4.size;have h2:=HB.out.1.size;omega)
  have hv5:=below_then hv4 hv5 (lr_ _)
  refine hKK.out _ _ (HX.out _ hv5) (fun hHeld=>?_)
  clear hKK KK
  try simp only[Act.put,qa_,qb_,qc_]
  refine tk7_ (i:=44) (z:=?_)
  (refine wpAnyH_take (i:=45) (oi:=⟨_,_,_,_,_,_⟩) (v:=?_) rfl (by kernel_rfl) (by kernel_rfl) (by kernel_rfl) (fun _ _ _ h=>h) (Or.inl ⟨by kernel_rfl,?_⟩) (by assumption) ?_;rotate_left;focus (intro wS hSw;(first |obtain⟨e1,e2,e3,e4,e5,e6,e7⟩:=hSw |skip);go_simp;(try with_reducible rfl);done);(try simp only[Act.put,qa_,qb_,qc_]))
  (refine wpAnyH_take (i:=46) (oi:=⟨_,_,_,_,_,_⟩) (v:=?_) rfl (by kernel_rfl) (by kernel_rfl) (by kernel_rfl) (fun _ _ _ h=>h) (Or.inl ⟨by kernel_rfl,?_⟩) (by assumption) ?_;rotate_left;focus (intro wS hSw;(first |obtain⟨e1,e2,e3,e4,e5,e6,e7⟩:=hSw |skip);go_simp;(try with_reducible rfl);done);(try simp only[Act.put,qa_,qb_,qc_]))
  (refine wpAnyH_take (i:=47) (oi:=⟨_,_,_,_,_,_⟩) (v:=?_) rfl (by kernel_rfl) (by kernel_rfl) (by kernel_rfl) (fun _ _ _ h=>h) (Or.inl ⟨by kernel_rfl,?_⟩) (by assumption) ?_;rotate_left;focus (intro wS hSw;(first |obtain⟨e1,e2,e3,e4,e5,e6,e7⟩:=hSw |skip);go_simp;(try with_reducible rfl);done);(try simp only[Act.put,qa_,qb_,qc_]))
  (refine wpAnyH_take (i:=48) (oi:=⟨_,_,_,_,_,_⟩) (v:=?_) rfl (by kernel_rfl) (by kernel_rfl) (by kernel_rfl) (fun _ _ _ h=>h) (Or.inl ⟨by kernel_rfl,?_⟩) (by assumption) ?_;rotate_left;focus (intro wS hSw;(first |obtain⟨e1,e2,e3,e4,e5,e6,e7⟩:=hSw |skip);go_simp;(try with_reducible rfl);done);(try simp only[Act.put,qa_,qb_,qc_]))
  (refine wpAnyH_take (i:=49) (oi:=⟨_,_,_,_,_,_⟩) (v:=?_) rfl (by kernel_rfl) (by kernel_rfl) (by kernel_rfl) (fun _ _ _ h=>h) (Or.inl ⟨by kernel_rfl,?_⟩) (by assumption) ?_;rotate_left;focus (intro wS hSw;(first |obtain⟨e1,e2,e3,e4,e5,e6,e7⟩:=hSw |skip);go_simp;(try with_reducible rfl);done);(try simp only[Act.put,qa_,qb_,qc_]))
  (refine wpAnyH_take (i:=50) (oi:=⟨_,_,_,_,_,_⟩) (v:=?_) rfl (by kernel_rfl) (by kernel_rfl) (by kernel_rfl) (fun _ _ _ h=>h) (Or.inl ⟨by kernel_rfl,?_⟩) (by assumption) ?_;rotate_left;focus (intro wS hSw;(first |obtain⟨e1,e2,e3,e4,e5,e6,e7⟩:=hSw |skip);go_simp;(try with_reducible rfl);done);(try simp only[Act.put,qa_,qb_,qc_]))
  refine tk7_ (i:=51) (z:=?_)
  refine tk7_ (i:=54) (z:=?_)
  refine on_ (i:=55) (z:=fun KK hKK=>?_)
  go_simp
  have hbn:=below_new v5 (.cells (kindRow w.heap.size F0 F1 F2 F3 F4 f0 f1 f2 f3 f4 h0 ub b4 b5 b7) 99)
  have hqn:=heap_new_ v5 (.cells (kindRow w.heap.size F0 F1 F2 F3 F4 f0 f1 f2 f3 f4 h0 ub b4 b5 b7) 99)
  have hvn:=below_then hv5 hbn (lr_ _)
  have hKI:=kinds_of (B0:=w.heap.size) (p:=p) (x:=x) (q:=w.heap.size) (w:=v5.alloc (.cells (kindRow w.heap.size F0 F1 F2 F3 F4 f0 f1 f2 f3 f4 h0 ub b4 b5 b7) 99)) (by have h1:=hv5.size;have h2:=HB.out.1.size;omega) (lr_ _) ((hvn.block _ (Array.getElem?_eq_some_iff.1 HB.out.2).1).trans HB.out.2) hqn ((((hi0.below hw2).below hw3).below hw4).below (below_then hw5 hbn (lr_ _))) (((hi1.below hw3).below hw4).below (below_then hw5 hbn (lr_ _))) ((hi2.below hw4).below (below_then hw5 hbn (lr_ _))) (hi3.below (below_then hw5 hbn (lr_ _))) (hi4.below hbn) HTH.out.1 HTH.out.2.1 HTH.out.2.2.1 HTH.out.2.2.2.1 (by rw[←HTH.out.2.2.2.2];first |rfl |simp)
  have HE:=hd_ (ai_ (below_then HB.out.1 hvn (lr_ _)) hKI)
  refine hKK.out _ _ (HX.out _ hvn) (fun hHeld=>?_)
  clear hKK KK
  try simp only[Act.put,qa_,qb_,qc_]
  refine tk7_ (i:=56) (z:=?_)
  refine wpAnyH_done (by kernel_rfl) ?_ _
  refine NoPanic.normal ?_
  clear hHeld hKI hbn hqn hvn hv1 hv2 hv3 hv4 hv5 hw1 hw2 hw3 hw4 hw5 hi0 hi1 hi2 hi3 hi4 hbd d0 d1 d3 d4 d5 d6 d7
  go_wp2_with fail
  go_ret
  exact⟨HE.out.1,_,_,rfl,HE.out.2⟩
 ·go_enter Tryz.func56,Tryz.ntmps56
  go_wp2_with fail
  try dsimp only
  (try rw[HW0.out])
  try dsimp only
  refine wp_region_noPanic ?_
  refine wp_region_held_drew (S:=fun wx:World=>wx.cell? ⟨w.heap.size,0,none⟩=some (.pointer (some ⟨p,0,none⟩))∧wx.cell? ⟨p,0,none⟩=some (.bool h0)∧wx.cell? ⟨p,3,none⟩=some (.int .u16 us)∧wx.cell? ⟨p,4,none⟩=some (.slice A4 L4 k4)∧wx.cell? ⟨p,5,none⟩=some (.slice A5 L5 k5)∧wx.cell? ⟨p,6,none⟩=some (.slice A6 L6 k6)∧wx.cell? ⟨p,7,none⟩=some (.slice A7 L7 k7)) mixed ⟨d0,d1,d3,d4,d5,d6,d7⟩ (fun hHeld=>?_)
  have hbd:=below_drew W0
  obtain⟨wd,hwd⟩:=nm_ (W0.drew)
  rw[hwd] at hHeld hbd⊢
  clear hwd
  refine tk7_ (i:=1) (z:=?_)
  refine tk7_ (i:=5) (z:=?_)
  refine tk7_ (i:=6) (z:=?_)
  refine tk7_ (i:=9) (z:=?_)
  refine tk7_ (i:=14) (z:=?_)
  refine tk7_ (i:=15) (z:=?_)
  refine tk7_ (i:=18) (z:=?_)
  refine tk7_ (i:=24) (z:=?_)
  refine tk7_ (i:=25) (z:=?_)
  refine tk7_ (i:=28) (z:=?_)
  refine tk7_ (i:=34) (z:=?_)
  refine tk7_ (i:=35) (z:=?_)
  refine tk7_ (i:=38) (z:=?_)
  refine tk7_ (i:=52) (z:=?_)
  refine tk7_ (i:=53) (z:=?_)
  refine tk7_ (i:=2) (z:=?_)
  refine tk7_ (i:=10) (z:=?_)
  refine tk7_ (i:=19) (z:=?_)
  refine tk7_ (i:=29) (z:=?_)
  refine tk7_ (i:=39) (z:=?_)
  refine tk7_ (i:=3) (z:=?_)
  refine tk7_ (i:=11) (z:=?_)
  refine tk7_ (i:=20) (z:=?_)
  refine tk7_ (i:=30) (z:=?_)
  refine tk7_ (i:=40) (z:=?_)
  refine tk7_ (i:=4) (z:=?_)
  refine tk7_ (i:=12) (z:=?_)
  refine tk7_ (i:=21) (z:=?_)
  refine tk7_ (i:=31) (z:=?_)
  refine tk7_ (i:=41) (z:=?_)
  refine tk7_ (i:=13) (z:=?_)
  refine tk7_ (i:=22) (z:=?_)
  refine tk7_ (i:=32) (z:=?_)
  refine tk7_ (i:=42) (z:=?_)
  refine tk7_ (i:=23) (z:=?_)
  refine tk7_ (i:=33) (z:=?_)
  refine tk7_ (i:=43) (z:=?_)
  refine on_ (i:=0) (z:=fun KK hKK=>?_)
  go_simp
  refine(HO.out 19 (by decide) wd).mono ?_
  rintro e v1 ⟨F0,f0,rfl,hi0,hv1⟩
  dsimp only
  have hw1:=hv1
  have hi0:=hi0.mono (S':=fun g=>w.heap.size≤g) (fun g hg=>by have h1:=hbd.size;have h2:=HB.out.1.size;omega)
  have hv1:=below_then hbd hv1 (lr_ _)
  refine hKK.out _ _ (HX.out _ hv1) (fun hHeld=>?_)
  clear hKK KK
  try simp only[Act.put,qa_,qb_,qc_]
  refine tk7_ (i:=7) (z:=?_)
  refine on_ (i:=8) (z:=fun KK hKK=>?_)
  go_simp
  refine(HO.out 15 (by decide) v1).mono ?_
  rintro e v2 ⟨F1,f1,rfl,hi1,hv2⟩
  dsimp only
  have hw2:=hv2
  have hi1:=hi1.mono (S':=fun g=>w.heap.size≤g) (fun g hg=>by have h1:=hv1.size;have h2:=HB.out.1.size;omega)
  have hv2:=below_then hv1 hv2 (lr_ _)
  refine hKK.out _ _ (HX.out _ hv2) (fun hHeld=>?_)
  clear hKK KK
  try simp only[Act.put,qa_,qb_,qc_]
  refine tk7_ (i:=16) (z:=?_)
  refine on_ (i:=17) (z:=fun KK hKK=>?_)
  go_simp
  refine(HO.out 37 (by decide) v2).mono ?_
  rintro e v3 ⟨F2,f2,rfl,hi2,hv3⟩
  dsimp only
  have hw3:=hv3
  have hi2:=hi2.mono (S':=fun g=>w.heap.size≤g) (fun g hg=>by have h1:=hv2.size;have h2:=HB.out.1.size;omega)
  have hv3:=below_then hv2 hv3 (lr_ _)
  refine hKK.out _ _ (HX.out _ hv3) (fun hHeld=>?_)
  clear hKK KK
  try simp only[Act.put,qa_,qb_,qc_]
  refine tk7_ (i:=26) (z:=?_)
  refine on_ (i:=27) (z:=fun KK hKK=>?_)
  go_simp
  refine(HO.out 17 (by decide) v3).mono ?_
  rintro e v4 ⟨F3,f3,rfl,hi3,hv4⟩
  dsimp only
  have hw4:=hv4
  have hi3:=hi3.mono (S':=fun g=>w.heap.size≤g) (fun g hg=>by have h1:=hv3.size;have h2:=HB.out.1.size;omega)
  have hv4:=below_then hv3 hv4 (lr_ _)
  refine hKK.out _ _ (HX.out _ hv4) (fun hHeld=>?_)
  clear hKK KK
  try simp only[Act.put,qa_,qb_,qc_]
  refine tk7_ (i:=36) (z:=?_)
  refine on_ (i:=37) (z:=fun KK hKK=>?_)
  go_simp
  refine(HO.out 30 (by decide) v4).mono ?_
  rintro e v5 ⟨F4,f4,rfl,hi4,hv5⟩
  dsimp only
  have hw5:=hv5
  have hi4:=hi4.mono (S':=fun g=>w.heap.size≤g) (fun g hg=>by have h1:=hv4.size;have h2:=HB.out.1.size;omega)
  have hv5:=below_then hv4 hv5 (lr_ _)
  refine hKK.out _ _ (HX.out _ hv5) (fun hHeld=>?_)
  clear hKK KK
  try simp only[Act.put,qa_,qb_,qc_]
  refine tk7_ (i:=44) (z:=?_)
  (refine wpAnyH_take (i:=45) (oi:=⟨_,_,_,_,_,_⟩) (v:=undef) rfl (by kernel_rfl) (by kernel_rfl) (by kernel_rfl) (fun _ _ _ h=>h) (Or.inr ⟨by kernel_rfl,rfl⟩) (by assumption) ?_;(try simp only[Act.put,qa_,qb_,qc_]))
  (refine wpAnyH_take (i:=46) (oi:=⟨_,_,_,_,_,_⟩) (v:=undef) rfl (by kernel_rfl) (by kernel_rfl) (by kernel_rfl) (fun _ _ _ h=>h) (Or.inr ⟨by kernel_rfl,rfl⟩) (by assumption) ?_;(try simp only[Act.put,qa_,qb_,qc_]))
  (refine wpAnyH_take (i:=47) (oi:=⟨_,_,_,_,_,_⟩) (v:=undef) rfl (by kernel_rfl) (by kernel_rfl) (by kernel_rfl) (fun _ _ _ h=>h) (Or.inr ⟨by kernel_rfl,rfl⟩) (by assumption) ?_;(try simp only[Act.put,qa_,qb_,qc_]))
  (refine wpAnyH_take (i:=48) (oi:=⟨_,_,_,_,_,_⟩) (v:=undef) rfl (by kernel_rfl) (by kernel_rfl) (by kernel_rfl) (fun _ _ _ h=>h) (Or.inr ⟨by kernel_rfl,rfl⟩) (by assumption) ?_;(try simp only[Act.put,qa_,qb_,qc_]))
  (refine wpAnyH_take (i:=49) (oi:=⟨_,_,_,_,_,_⟩) (v:=undef) rfl (by kernel_rfl) (by kernel_rfl) (by kernel_rfl) (fun _ _ _ h=>h) (Or.inr ⟨by kernel_rfl,rfl⟩) (by assumption) ?_;(try simp only[Act.put,qa_,qb_,qc_]))
  (refine wpAnyH_take (i:=50) (oi:=⟨_,_,_,_,_,_⟩) (v:=undef) rfl (by kernel_rfl) (by kernel_rfl) (by kernel_rfl) (fun _ _ _ h=>h) (Or.inr ⟨by kernel_rfl,rfl⟩) (by assumption) ?_;(try simp only[Act.put,qa_,qb_,qc_]))
  refine tk7_ (i:=51) (z:=?_)
  refine tk7_ (i:=54) (z:=?_)
  refine on_ (i:=55) (z:=fun KK hKK=>?_)
  go_simp
  have hbn:=below_new v5 (.cells (kindRow w.heap.size F0 F1 F2 F3 F4 f0 f1 f2 f3 f4 h0 ub b4 b5 true) 99)
  have hqn:=heap_new_ v5 (.cells (kindRow w.heap.size F0 F1 F2 F3 F4 f0 f1 f2 f3 f4 h0 ub b4 b5 true) 99)
  have hvn:=below_then hv5 hbn (lr_ _)
  have hKI:=kinds_of (B0:=w.heap.size) (p:=p) (x:=x) (q:=w.heap.size) (w:=v5.alloc (.cells (kindRow w.heap.size F0 F1 F2 F3 F4 f0 f1 f2 f3 f4 h0 ub b4 b5 true) 99)) (by have h1:=hv5.size;have h2:=HB.out.1.size;omega) (lr_ _) ((hvn.block _ (Array.getElem?_eq_some_iff.1 HB.out.2).1).trans HB.out.2) hqn ((((hi0.below hw2).below hw3).below hw4).below (below_then hw5 hbn (lr_ _))) (((hi1.below hw3).below hw4).below (below_then hw5 hbn (lr_ _))) ((hi2.below hw4).below (below_then hw5 hbn (lr_ _))) (hi3.below (below_then hw5 hbn (lr_ _))) (hi4.below hbn) HTH.out.1 HTH.out.2.1 HTH.out.2.2.1 HTH.out.2.2.2.1 (by rw[←HTH.out.2.2.2.2];first |rfl |simp)
  have HE:=hd_ (ai_ (below_then HB.out.1 hvn (lr_ _)) hKI)
  refine hKK.out _ _ (HX.out _ hvn) (fun hHeld=>?_)
  clear hKK KK
  try simp only[Act.put,qa_,qb_,qc_]
  refine tk7_ (i:=56) (z:=?_)
  refine wpAnyH_done (by kernel_rfl) ?_ _
  refine NoPanic.normal ?_
  clear hHeld hKI hbn hqn hvn hv1 hv2 hv3 hv4 hv5 hw1 hw2 hw3 hw4 hw5 hi0 hi1 hi2 hi3 hi4 hbd d0 d1 d3 d4 d5 d6 d7
  go_wp2_with fail
  go_ret
  exact⟨HE.out.1,_,_,rfl,HE.out.2⟩
end Go.Proofs.YtkjkhoglkpepiaaGreatDoor.nmc
