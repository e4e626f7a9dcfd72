/- The program's truth, number, objectNode, objectOf, only, lis -/
import Derived.Test.YtkjkhoglkpepiaaGreatDoorAc
import Derived.Test.YtkjkhoglkpepiaaGreatDoorYh
import Derived.Deep.OwnRows
set_option maxRecDepth 100000
set_option maxHeartbeats 8000000
set_option linter.unusedVariables false
set_option linter.unusedSimpArgs false
namespace Go.Proofs.YtkjkhoglkpepiaaGreatDoor.nmc
open Go.RowKit tlvc tlvd ndc txc txm intc intm
theorem truth_any  (w:World):
 Calls Tryz.prog 110 #[] w (NVal (fun g=>w.heap.size≤g) w (.mk 1 (boolB true) [])):=by
 obtain⟨W0,hW0⟩:=nm_ (w.alloc (.cells #[.int .u8 0,.slice none 0 0,.slice none 0 0] 43))
 have hb0:Below w.heap.size w W0:=by rw[←hW0];exact below_new _ _
 have p0:W0.heap[w.heap.size]? =some (.cells #[.int .u8 0,.slice none 0 0,.slice none 0 0] 43):=by rw[←hW0];exact heap_new_ _ _
 have hz0:W0.heap.size=w.heap.size+1:=by rw[←hW0];simp
 have HC:=hd_ (putBool_any true W0)
 have HB:=hd_ (ai_ hb0 (ai_ p0 hz0))
 obtain⟨ys,hys⟩:=nm_ ((boolB true))
 rw[hys] at HC⊢
 clear hb0 p0 hz0 hys
 go_enter Tryz.func110,Tryz.ntmps110
 go_wp2_with fail
 refine HC.out.mono ?_
 rintro e w1 ⟨A1,c1,rfl,hh,hb1⟩
 have hz:=HB.out.2.2
 have p1:=(hb1.block w.heap.size (by omega)).trans HB.out.2.1
 have hB1:=below_then HB.out.1 hb1 (lr_ _)
 have hnd:NdC (fun g=>w.heap.size<g) w1 (.mk 1 ys []) (.int .u8 1) (.slice A1 ys.length c1) (.slice none 0 0):=ndC_leaf (by omega) hh.2.1 hh.2.2.1 hh.1 (fun hn g off sp e=>by
  obtain⟨b',off',e',hb',_⟩:=hh.1.2.2 hn
  have:=hh.2.2.2 b' off' e'
  rw[e'] at e;cases e;omega)
 obtain⟨r0,r1,r2,hB⟩:=res3 (y0:=.int .u8 1) (y1:=.slice A1 ys.length c1) (y2:=.slice none 0 0) (lr_ _) hB1 p1
 have hn2:=res3_nd (b:=w.heap.size) (y0:=.int .u8 1) (y1:=.slice A1 ys.length c1) (y2:=.slice none 0 0) (fun g hg=>by omega) hnd
 have f0:=fh_ p1 0
 have f1:=fh_ p1 1
 have f2:=fh_ p1 2
 have s0:=(ch_ p1 0).trans rfl
 have s1:=(ch_ p1 1).trans rfl
 have s2:=(ch_ p1 2).trans rfl
 have HE:=hd_ (ai_ hB (NdC.mono (B':=fun g=>w.heap.size≤g) (fun g hg=>by omega) _ _ _ _ hn2))
 clear hB hn2 hnd p1 hB1 hh hb1 HC HB hz
 go_wp2_with fail
 refine bodyPost_ret (v:=.agg #[.int .u8 1,.slice A1 ys.length c1,.slice none 0 0]) ?_ rfl ⟨HE.out.1,_,_,_,_,_,_,_,rfl,HE.out.2⟩
 simp[results,Tryz.results110,go_sem,r0,r1,r2]
theorem number_any (n:Int)(w:World)(hn:I64 n):
 Calls Tryz.prog 111 #[.int .i64 n] w (NVal (fun g=>w.heap.size≤g) w (.mk 2 (putI n) [])):=by
 obtain⟨W0,hW0⟩:=nm_ (w.alloc (.cells #[.int .u8 0,.slice none 0 0,.slice none 0 0] 43))
 have hb0:Below w.heap.size w W0:=by rw[←hW0];exact below_new _ _
 have p0:W0.heap[w.heap.size]? =some (.cells #[.int .u8 0,.slice none 0 0,.slice none 0 0] 43):=by rw[←hW0];exact heap_new_ _ _
 have hz0:W0.heap.size=w.heap.size+1:=by rw[←hW0];simp
 have HC:=hd_ (putInt_any n W0 hn)
 have HB:=hd_ (ai_ hb0 (ai_ p0 hz0))
 obtain⟨ys,hys⟩:=nm_ ((putI n))
 rw[hys] at HC⊢
 clear hn
 clear hb0 p0 hz0 hys
 go_enter Tryz.func111,Tryz.ntmps111
 go_wp2_with fail
 refine HC.out.mono ?_
 rintro e w1 ⟨A1,c1,rfl,hh,hb1⟩
 have hz:=HB.out.2.2
 have p1:=(hb1.block w.heap.size (by omega)).trans HB.out.2.1
 have hB1:=below_then HB.out.1 hb1 (lr_ _)
 have hnd:NdC (fun g=>w.heap.size<g) w1 (.mk 2 ys []) (.int .u8 2) (.slice A1 ys.length c1) (.slice none 0 0):=ndC_leaf (by omega) hh.2.1 hh.2.2.1 hh.1 (fun hn g off sp e=>by
  obtain⟨b',off',e',hb',_⟩:=hh.1.2.2 hn
  have:=hh.2.2.2 b' off' e'
  rw[e'] at e;cases e;omega)
 obtain⟨r0,r1,r2,hB⟩:=res3 (y0:=.int .u8 2) (y1:=.slice A1 ys.length c1) (y2:=.slice none 0 0) (lr_ _) hB1 p1
 have hn2:=res3_nd (b:=w.heap.size) (y0:=.int .u8 2) (y1:=.slice A1 ys.length c1) (y2:=.slice none 0 0) (fun g hg=>by omega) hnd
 have f0:=fh_ p1 0
 have f1:=fh_ p1 1
 have f2:=fh_ p1 2
 have s0:=(ch_ p1 0).trans rfl
 have s1:=(ch_ p1 1).trans rfl
 have s2:=(ch_ p1 2).trans rfl
 have HE:=hd_ (ai_ hB (NdC.mono (B':=fun g=>w.heap.size≤g) (fun g hg=>by omega) _ _ _ _ hn2))
 clear hB hn2 hnd p1 hB1 hh hb1 HC HB hz
 go_wp2_with fail
 refine bodyPost_ret (v:=.agg #[.int .u8 2,.slice A1 ys.length c1,.slice none 0 0]) ?_ rfl ⟨HE.out.1,_,_,_,_,_,_,_,rfl,HE.out.2⟩
 simp[results,Tryz.results111,go_sem,r0,r1,r2]
theorem objectNode_any (A:Option Addr)(n c:Nat)(xs:List Int)(w:World)(hx:Ins w A n xs)(hc:n≤c)(hm:c≤maxLen):
 Calls Tryz.prog 120 #[.slice A n c] w (NVal (fun g=>w.heap.size≤g) w (.mk 6 (putO xs).1 [])):=by
 obtain⟨W0,hW0⟩:=nm_ (w.alloc (.cells #[.int .u8 0,.slice none 0 0,.slice none 0 0] 43))
 have hb0:Below w.heap.size w W0:=by rw[←hW0];exact below_new _ _
 have p0:W0.heap[w.heap.size]? =some (.cells #[.int .u8 0,.slice none 0 0,.slice none 0 0] 43):=by rw[←hW0];exact heap_new_ _ _
 have hz0:W0.heap.size=w.heap.size+1:=by rw[←hW0];simp
 have HC:=hd_ (putOID_any A n c xs W0 (hx.below hb0) hc hm)
 have HB:=hd_ (ai_ hb0 (ai_ p0 hz0))
 obtain⟨ys,hys⟩:=nm_ ((putO xs).1)
 rw[hys] at HC⊢
 obtain⟨er,her⟩:=nm_ ((putO xs).2)
 rw[her] at HC
 clear her hx
 clear hb0 p0 hz0 hys
 go_enter Tryz.func120,Tryz.ntmps120
 go_wp2_with fail
 refine HC.out.mono ?_
 rintro e w1 ⟨A1,c1,rfl,hh,hb1⟩
 have hz:=HB.out.2.2
 have p1:=(hb1.block w.heap.size (by omega)).trans HB.out.2.1
 have hB1:=below_then HB.out.1 hb1 (lr_ _)
 have hnd:NdC (fun g=>w.heap.size<g) w1 (.mk 6 ys []) (.int .u8 6) (.slice A1 ys.length c1) (.slice none 0 0):=ndC_leaf (by omega) hh.2.1 hh.2.2.1 hh.1 (fun hn g off sp e=>by
  obtain⟨b',off',e',hb',_⟩:=hh.1.2.2 hn
  have:=hh.2.2.2 b' off' e'
  rw[e'] at e;cases e;omega)
 obtain⟨r0,r1,r2,hB⟩:=res3 (y0:=.int .u8 6) (y1:=.slice A1 ys.length c1) (y2:=.slice none 0 0) (lr_ _) hB1 p1
 have hn2:=res3_nd (b:=w.heap.size) (y0:=.int .u8 6) (y1:=.slice A1 ys.length c1) (y2:=.slice none 0 0) (fun g hg=>by omega) hnd
 have f0:=fh_ p1 0
 have f1:=fh_ p1 1
 have f2:=fh_ p1 2
 have s0:=(ch_ p1 0).trans rfl
 have s1:=(ch_ p1 1).trans rfl
 have s2:=(ch_ p1 2).trans rfl
 have HE:=hd_ (ai_ hB (NdC.mono (B':=fun g=>w.heap.size≤g) (fun g hg=>by omega) _ _ _ _ hn2))
 clear hB hn2 hnd p1 hB1 hh hb1 HC HB hz
 go_wp2_with fail
 refine bodyPost_ret (v:=.agg #[.int .u8 6,.slice A1 ys.length c1,.slice none 0 0]) ?_ rfl ⟨HE.out.1,_,_,_,_,_,_,_,rfl,HE.out.2⟩
 simp[results,Tryz.results120,go_sem,r0,r1,r2]
def LVal {α:Type}(E:El α)(S:Nat→Prop)(w:World)(xs:List α)(e:Ending)(w':World):Prop:=
 Below w.heap.size w w'∧∃A c,e=.returned (.slice A xs.length c)∧xs.length≤c∧c≤maxLen∧Lst E S w' A xs
theorem LVal.mono {α:Type}{E:El α}{S S':Nat→Prop}{w:World}{xs:List α}{e:Ending}{w':World}(hS: ∀g,S g→S' g)(h:LVal E S w xs e w'):LVal E S' w xs e w':=by
 obtain⟨hb,A,c,e,h1,h2,h3⟩:=h
 exact⟨hb,A,c,e,h1,h2,h3.mono hS⟩
theorem one_node {S:Nat→Prop}{W:World}{g:Nat}{a:Nd}{a0 a1 a2:Value}{T:TypeId}{fr:Nat × Nat}(hp:W.heap[g]? =some (.cells #[a0,a1,a2] T fr))(hg:S g)(ha:NdC S W a a0 a1 a2):Lst ndE S W (some ⟨g,0,none⟩) [a]:=fun _=>⟨g,0,rfl,(Array.getElem?_eq_some_iff.1 hp).1,hg,fun i hi=>by
 have hi:i=0:=by simpa using hi
 subst hi
 exact⟨[a0,a1,a2],fun j u hu=>by
  rw[ch_ hp]
  match j,hu with
  |0,hu=>exact hu
  |1,hu=>exact hu
  |2,hu=>exact hu
  |j+3,hu=>simp at hu,_,_,_,rfl,ha⟩⟩
theorem only_any (S:Nat→Prop)(b:Bool)(n:Nd)(c0 c1 c2:Value)(w:World)(hS: ∀g,w.heap.size≤g→S g)(hn:NdC S w n c0 c1 c2):
 Calls Tryz.prog 109 #[.bool b,.agg #[c0,c1,c2]] w (LVal ndE S w (onlyL b n)):=by
 obtain⟨t,A,la,ca,K,lk,ck,rfl,rfl,rfl⟩:=hn.shape
 obtain⟨W0,hW0⟩:=nm_ (w.alloc (.cells #[.int .u8 t,.slice A la ca,.slice K lk ck] 43))
 have hb0:Below w.heap.size w W0:=by rw[←hW0];exact below_new _ _
 have q0:W0.heap[w.heap.size]? =some (.cells #[.int .u8 t,.slice A la ca,.slice K lk ck] 43):=by rw[←hW0];exact heap_new_ _ _
 obtain⟨x0,x1,x2⟩:=box_nd (br_ _ W0) q0
 cases b
 ·have HB:=hd_ hb0
  clear hb0 q0 hn hS
  go_enter Tryz.func109,Tryz.ntmps109
  go_wp2
  go_ret
  exact⟨HB.out,none,0,rfl,lr_ _,Nat.zero_le _,Lst.nil _ _ _⟩
 ·obtain⟨W1,hW1⟩:=nm_ (W0.alloc (.cells #[.int .u8 t,.slice A la ca,.slice K lk ck] 43))
  have hb1:Below w.heap.size w W1:=by rw[←hW1];exact below_then hb0 (below_new _ _) (lr_ _)
  have q1:W1.heap[W0.heap.size]? =some (.cells #[.int .u8 t,.slice A la ca,.slice K lk ck] 43):=by rw[←hW1];exact heap_new_ _ _
  have HE:=hd_ (ai_ hb1 (one_node q1 (hS _ hb0.size) (NdC.below hb1 _ _ _ _ hn)))
  clear hb0 hb1 q0 q1 hn hS
  go_enter Tryz.func109,Tryz.ntmps109
  go_wp2
  go_ret
  exact⟨HE.out.1,_,_,rfl,lr_ _,by unfold maxLen;decide,HE.out.2⟩
theorem Tryz.infoU8:(Tryz.prog.info? 5).map (fun i=>(i.zero,i.size,i.bytes))=some (some (.int .u8 0),1,1):=by kernel_rfl
theorem app_long (w:World)(base:Nat)(v:Value)(n:Nat)(cs:List Value)(hown:w.ownsRow base 5 1 v n cs)(A:Option Addr)(m c:Nat)(ys:List Int)(hb:Bys w A m ys)(hn:n+m≤140737488355328)(hbase:base≤w.heap.size):
 ∃v' w',(Builtin.append_ #[34,34] 34 #[v,.slice A m c]).run Tryz.prog w=.ok v' w'∧w'.ownsRow base 5 1 v' (n+m) (cs++vals ys)∧w.grownBy w' v.ownBlock∧(v'.ownBlock=v.ownBlock∨ ∃g',v'.ownBlock=some g'∧w.heap.size≤g'):=by
 obtain⟨i0,hi,hz0,hz1,hz2⟩:=info_parts Tryz.infoU8
 rcases A with _ |ad
 ·have hm:m=0:=by
   rcases Nat.eq_zero_or_pos m with h0 |h0
   ·exact h0
   ·obtain⟨b,off,h,_⟩:=hb.2.2 h0
    cases h
  subst hm
  have hn:ys=[]:=List.eq_nil_of_length_eq_zero hb.1
  subst hn
  exact⟨v,w,run_app_nil w base 34 34 5 i0 Tryz.underlying34 hi v n cs hown c,by simpa[vals] using hown,World.grownBy.refl w _,.inl rfl⟩
 ·obtain⟨v',w',h1,h2,h3,_,h5⟩:=app_gen (P:=Tryz.prog) w base 34 34 5 i0 (.int .u8 0) 1 1 Tryz.underlying34 hi hz0 hz1 hz2 rfl (by decide) v n cs hown ad m c (vals ys) (by rw[vals_length,hb.1];omega)
   (fun j u hu=>by
     have hj:j<ys.length:=by
      have:=(List.getElem?_eq_some_iff.1 hu).1
      rwa[vals_length] at this
     obtain⟨b,off,h,_,hc⟩:=hb.2.2 (by have:=hb.1;omega)
     cases h
     rw[Addr.add_lit,hc j (by have:=hb.1;omega),←hu]
     simp[vals,List.getD_eq_getElem?_getD,List.getElem?_eq_getElem hj]) (vals_one ys) (by unfold maxLen;omega) (by omega) hbase
  exact⟨v',w',h1,h2,h3,h5⟩
theorem eql_nil {P:Program}(w:World)(t e:TypeId)(a:Option Addr)(l c:Nat)(h:P.underlying t=some (.slice e)):(binOp .eql t (.slice a l c) (.slice none 0 0)).run P w=.ok (.bool a.isNone) w:=by
 simp only[binOp]
 simp[run_equal_slice_nil w t e a l c h]
theorem bclone_any (A:Option Addr)(n c:Nat)(xs:List Int)(w:World)(hx:Bys w A n xs)(hc:n≤c)(hm:c≤maxLen)(hf:n≤140737488351232):
 Calls Tryz.prog 140 #[.slice A n c] w fun e w'=>∃A' c',e=.returned (.slice A' n c')∧Bys w' A' n xs∧(n≤c'∧c'≤maxLen)∧Below w.heap.size w w'∧∀g off sp,A'=some ⟨g,off,sp⟩→w.heap.size≤g:=by
 obtain⟨v3,w3,hrun,hown3,hg3,hob3⟩:=app_long (w.alloc (.cells #[] 5)) w.heap.size (.slice (some ⟨w.heap.size,0,none⟩) 0 0) 0 [] (World.ownsRow_lit w #[] 0 (lr_ _) (Nat.zero_le _) rfl) A n c xs (hx.alloc _) (by omega) (by simp)
 rw[Nat.zero_add,List.nil_append] at hown3
 obtain⟨Ao,co,hv3,hlo,hco,hAo⟩:=own_shape hown3
 subst hv3
 have hb3:Below w.heap.size w w3:=((br_ _ _).alloc (lr_ _) _).grown hg3 (by simp) fun j hj=>by have hj:some w.heap.size=some j:=hj;cases hj;exact lr_ _
 have hbo:=Bys.own hown3 hx.2.1
 have hfar: ∀g off sp,Ao=some ⟨g,off,sp⟩→w.heap.size≤g:=fun g off sp e=>(hown3.lt g (by rw[e];rfl)).1
 have HE:=hd_ (ai_ hbo (ai_ hb3 hfar))
 have hnil:=fun W=>eql_nil (P:=Tryz.prog) W 34 5 A n c Tryz.underlying34
 rcases A with _ |ad
 ·have hn0:n=0:=by
   rcases Nat.eq_zero_or_pos n with h0 |h0
   ·exact h0
   ·obtain⟨b,off,h,_⟩:=hx.2.2 h0
    cases h
  subst hn0
  have hx0:xs=[]:=List.eq_nil_of_length_eq_zero hx.1
  subst hx0
  clear HE hbo hb3 hfar hown3 hg3 hob3 hrun
  go_enter Tryz.func140,Tryz.ntmps140
  go_wp2
  go_ret
  exact⟨none,0,rfl,Bys.nil_ _ _,⟨lr_ _,Nat.zero_le _⟩,br_ _ _,fun g off sp e=>by cases e⟩
 ·clear hbo hb3 hfar hown3 hg3 hob3 hx
  go_enter Tryz.func140,Tryz.ntmps140
  go_wp2_with (at_builtin;refine wpl_append rfl (.tmp 5) (.tmp 6) 34 rfl _ _ _ rfl rfl hrun ?_)
  go_ret
  exact⟨Ao,co,rfl,HE.out.1,⟨hlo,hco⟩,HE.out.2.1,HE.out.2.2⟩
end Go.Proofs.YtkjkhoglkpepiaaGreatDoor.nmc
