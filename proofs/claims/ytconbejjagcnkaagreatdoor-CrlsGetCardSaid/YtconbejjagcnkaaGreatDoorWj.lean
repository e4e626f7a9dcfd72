/- The document's Same of two lists told alike, and the head of the statements of lists. -/
import Derived.Test.YtconbejjagcnkaaGreatDoorWi
set_option maxRecDepth 100000
set_option maxHeartbeats 16000000
set_option linter.unusedVariables false
set_option linter.unusedSimpArgs false
namespace Go.Proofs.YtconbejjagcnkaaGreatDoor.nmc
open Go.RowKit tlvc tlvd ndc txc txm intc intm vtc
theorem rsameL_self (B B':Nat→Prop)(c:Cr)(c0 c1 c2 c3 c4 d0 d1 d2 d3 d4:Value)(w:World)(hx:CrC B w c c0 c1 c2 c3 c4)(hy:CrC B' w c d0 d1 d2 d3 d4):
 Calls Tryz.prog 12 #[.agg #[c0,c1,c2,c3,c4],.agg #[d0,d1,d2,d3,d4]] w fun e w'=>e=.returned (.bool true)∧Below w.heap.size w w':=by
 obtain⟨W0,hW0⟩:=nm_ ((w.alloc (.cells #[c0,c1,c2,c3,c4] 26)).alloc (.cells #[d0,d1,d2,d3,d4] 26))
 have hb0:Below w.heap.size w W0:=by rw[←hW0];exact(below_new _ _).alloc (by simp) _
 have v1:W0.heap[w.heap.size]? =some (.cells #[c0,c1,c2,c3,c4] 26):=by rw[←hW0,heap_old_ _ _ (by simp)];exact heap_new_ _ _
 have v2:W0.heap[w.heap.size+1]? =some (.cells #[d0,d1,d2,d3,d4] 26):=by rw[←hW0];exact heap_is (by simp)
 have hbk:=fun(W:World) (hW:Below W0.heap.size W0 W)=>(hW.block _ (Array.getElem?_eq_some_iff.1 v1).1).trans v1
 have hbl:=fun(W:World) (hW:Below W0.heap.size W0 W)=>(hW.block _ (Array.getElem?_eq_some_iff.1 v2).1).trans v2
 obtain⟨A0,l0,k0,a1,a2,A3,l3,k3,a4,rfl,rfl,rfl,rfl,rfl⟩:=hx.shape
 obtain⟨E0,e0,j0,b1,b2,E3,e3,j3,b4,rfl,rfl,rfl,rfl,rfl⟩:=hy.shape
 obtain rfl:a1=b1:=by have h1:=hx.ths.1;have h2:=hy.ths.1;simp only[Value.int.injEq,true_and] at h1 h2;rw[h1,h2]
 obtain rfl:a2=b2:=by have h1:=hx.nxt.1;have h2:=hy.nxt.1;simp only[Value.int.injEq,true_and] at h1 h2;rw[h1,h2]
 obtain rfl:a4=b4:=by have h1:=hx.sig.1;have h2:=hy.sig.1;simp only[Value.int.injEq,true_and] at h1 h2;rw[h1,h2]
 obtain⟨g1,g2,g3,g4⟩:=ls4 hx.iss
 obtain⟨g5,g6,g7,g8⟩:=ls4 hy.iss
 obtain rfl:l0=e0:=g1.symm.trans g5
 obtain⟨i1,i2,i3,_⟩:=inC_ins hx.sers
 obtain⟨i4,i5,i6,_⟩:=inC_ins hy.sers
 obtain rfl:l3=e3:=i3.len.symm.trans i6.len
 have HC:=hd_ (ralike_self _ _ A0 E0 l0 k0 j0 c.iss W0 g1 (g4.below hb0) (g8.below hb0) g2 g3 g6 g7)
 have HV:=hd_ (ai_ hbk hbl)
 have HI:=hd_ (fun(W:World) (hW:Below W0.heap.size W0 W)=>ai_ (i3.below (below_then hb0 hW (lr_ _))) (i6.below (below_then hb0 hW (lr_ _))))
 have HB:=hd_ hb0
 have h9:k3≤9223372036854775807:=by unfold maxLen at i2;omega
 have h10:j3≤9223372036854775807:=by unfold maxLen at i5;omega
 obtain⟨s0,_⟩:=box5 v1
 obtain⟨t0,_⟩:=box5 v2
 clear hbk hbl v1 v2 hb0 hx hy g1 g2 g3 g4 g5 g6 g7 g8 i2 i3 i5 i6
 go_enter Tryz.func12,Tryz.ntmps12
 go_wp2_with fail
 clear s0 t0
 refine HC.out.mono ?_
 rintro e w1 ⟨rfl,hb1⟩
 obtain⟨s0,s1,s2,s3,s4⟩:=box5 (HV.out.1 w1 hb1)
 obtain⟨t0,t1,t2,t3,t4⟩:=box5 (HV.out.2 w1 hb1)
 have HX:=hd_ (HI.out w1 hb1)
 have HE:=hd_ (below_then HB.out hb1 (lr_ _))
 have u3: ∀q,(w1.drewN q).cell? ⟨w.heap.size,3,none⟩=some (.slice A3 l3 k3):=fun q=>s3
 have u4: ∀q,(w1.drewN q).cell? ⟨w.heap.size+1,3,none⟩=some (.slice E3 l3 j3):=fun q=>t3
 clear hb1 HC HV HI HB
 go_wp2_with fail
 clear s0 s1 s2 s4 t0 t1 t2 t4
 go_loopw [5] (fun x wr=>∃k:Nat,x=.int .i64 k∧k≤l3∧∃q,wr=w1.drewN q) (fun x _=>l3 - (intOf x).toNat)
 case atStart=>exact⟨0,rfl,by omega,0,rfl⟩
 case round=>
  obtain⟨k,rfl,hk,q,rfl⟩:=hrel
  by_cases hlt:k<l3
  ·obtain⟨b,off,rfl,_,hcl⟩:=HX.out.1.2.2 (by omega)
   obtain⟨b2,off2,rfl,_,hcl2⟩:=HX.out.2.2.2 (by omega)
   have hc1: ∀q,(w1.drewN q).cell? ⟨b,off+k,none⟩=some (.int .i64 (c.sers.getD k 0)):=fun q=>hcl k hlt
   have hc2: ∀q,(w1.drewN q).cell? ⟨b2,off2+k,none⟩=some (.int .i64 (c.sers.getD k 0)):=fun q=>hcl2 k hlt
   obtain⟨x,hxx⟩:=nm_ (c.sers.getD k 0)
   rw[hxx] at hc1 hc2
   have hk0:(k:Int)<l3:=by omega
   have hk1:(0:Int)≤k:=by omega
   clear hcl hcl2 hxx s3 t3
   go_wp2
   go_quiet (fail)
   go_wp2
   go_roundw
   case rel=>exact⟨k+1,by go_num,by omega,_,rfl⟩
   case measure=>simp[intOf];omega
  ·obtain rfl:l3=k:=by omega
   have hk0: ¬(l3:Int)<l3:=by omega
   clear s3 t3
   go_wp2
   go_ret
   exact⟨rfl,⟨HE.out.os,HE.out.tape,HE.out.output,HE.out.size,HE.out.block⟩⟩
theorem resL_ne {b:List Int}{er:Int}(h:resL b=(er,none)):er≠0:=by
 unfold resL at h
 split at h
 ·rename_i hr
  cases h
  exact readAll_ne hr
 ·split at h
  ·cases h;decide
  ·cases h
def crH:Cr:=⟨[],0,9,[2,3],1⟩
theorem crH_right:rightL crH=true:=by decide
def crB:Cr:=⟨[],0,0,[3,3],0⟩
theorem crB_no:putL crB=.no 121:=by unfold putL;rw[if_neg (by decide)]
theorem i64c {n:Int}(h: -9223372036854775808≤n∧n≤9223372036854775807):I64 n:=h
theorem crN_cells {S:Nat→Prop}{w:World}{g:Nat}{x y t u v:Int}(hp:w.heap[g]? =some (.cells #[.int .i64 x,.int .i64 y] 2))(hS:S g)(hx:I64 x)(hy:I64 y)(ht:I64 t)(hu:I64 u)(hv:I64 v):CrC S w ⟨[],t,u,[x,y],v⟩ (.slice none 0 0) (.int .i64 t) (.int .i64 u) (.slice (some ⟨g,0,none⟩) 2 2) (.int .i64 v):=
 ⟨LsC.nil,⟨rfl,ht⟩,⟨rfl,hu⟩,⟨_,2,2,rfl,lr_ _,by decide,⟨rfl,fun z hz=>by
  simp only[List.mem_cons,List.not_mem_nil,or_false] at hz
  rcases hz with rfl |rfl
  ·exact hx
  ·exact hy,fun _=>⟨g,0,rfl,(Array.getElem?_eq_some_iff.1 hp).1,fun j hj=>by
  match j,hj with
  |0,_=>exact(ch_ hp 0).trans rfl
  |1,_=>exact(ch_ hp 1).trans rfl⟩⟩,fun _ g' off sp e=>by cases e;exact hS⟩,⟨rfl,hv⟩⟩
theorem head12_any (w:World)(hT:Tabs w):Calls Tryz.prog 5 #[] w fun e w'=>e=.returned (.bool true)∧Below w.heap.size w w':=by
 obtain⟨b,hb,_⟩:=lists_node (c:=crH) crH_right
 have hpc:putL crH=.ok b:=by unfold putL;rw[if_pos crH_right];exact hb
 have hgb:=resL_back hpc
 obtain⟨W0,hW0⟩:=nm_ (w.alloc (.cells #[.int .i64 2,.int .i64 3] 2))
 have hb0:Below w.heap.size w W0:=by rw[←hW0];exact below_new _ _
 have p0:W0.heap[w.heap.size]? =some (.cells #[.int .i64 2,.int .i64 3] 2):=by rw[←hW0];exact heap_new_ _ _
 have hp1:=putL_any (fun _=>True) crH _ _ _ _ _ W0 (crN_cells p0 trivial (i64c (by decide)) (i64c (by decide)) (i64c (by decide)) (i64c (by decide)) (i64c (by decide))) (hT.below hb0)
 rw[hpc] at hp1
 have HP1:=hd_ hp1
 have HT:=hd_ (ai_ (hT.below hb0) (ai_ hb0 hgb))
 clear hb hpc hgb hb0 p0 hp1 hT
 go_enter Tryz.func5,Tryz.ntmps5
 go_wp2_with fail
 refine HP1.out.mono ?_
 rintro e w1 ⟨hb1,A,cc,rfl,h1,⟨h2,h3⟩,_⟩
 have hg1:=getL_any A b.length cc b w1 h1 h2 h3 (HT.out.1.below hb1)
 rw[HT.out.2.2] at hg1
 have HG:=hd_ hg1
 obtain⟨len,hlen⟩:=nm_ b.length
 rw[hlen] at HG⊢
 have H1:=hd_ hb1
 clear hb1 h1 h2 h3 hg1 hlen HP1
 go_wp2_with fail
 refine HG.out.mono ?_
 rintro e w2 ⟨hb2,hpost⟩
 obtain⟨c0,c1,c2,c3,c4,rfl,hcc⟩:=hpost
 obtain⟨E0,e0,i0,a1,a2,E3,e3,i3,a4,rfl,rfl,rfl,rfl,rfl⟩:=hcc.shape
 obtain rfl:e3=2:=(inC_ins hcc.sers).2.2.1.len.symm
 obtain⟨W2,hW2⟩:=nm_ (w2.alloc (.cells #[.slice E0 e0 i0,.int .i64 a1,.int .i64 a2,.slice E3 2 i3,.int .i64 a4] 26))
 have hbn:Below w2.heap.size w2 W2:=by rw[←hW2];exact below_new _ _
 have p2:W2.heap[w2.heap.size]? =some (.cells #[.slice E0 e0 i0,.int .i64 a1,.int .i64 a2,.slice E3 2 i3,.int .i64 a4] 26):=by rw[←hW2];exact heap_new_ _ _
 obtain⟨W3,hW3⟩:=nm_ (W2.alloc (.cells #[.int .i64 3,.int .i64 3] 2))
 have hbm:Below W2.heap.size W2 W3:=by rw[←hW3];exact below_new _ _
 have p3:W3.heap[W2.heap.size]? =some (.cells #[.int .i64 3,.int .i64 3] 2):=by rw[←hW3];exact heap_new_ _ _
 have hbw:=below_then (below_then hb2 hbn (lr_ _)) hbm (lr_ _)
 have hbww:=below_then H1.out hbw (lr_ _)
 have hp3:=putL_any (fun _=>True) crB _ _ _ _ _ W3 (crN_cells p3 trivial (i64c (by decide)) (i64c (by decide)) (i64c (by decide)) (i64c (by decide)) (i64c (by decide))) (HT.out.1.below hbww)
 rw[crB_no] at hp3
 have HP3:=hd_ hp3
 obtain⟨g2,hg2⟩:=nm_ w2.heap.size
 rw[hg2] at p2
 obtain⟨g3,hg3⟩:=nm_ W2.heap.size
 rw[hg3] at HP3 p3
 have HX:=hd_ (ai_ hbww (ai_ ((hbm.block _ (Array.getElem?_eq_some_iff.1 p2).1).trans p2) ((hcc.below hbn).below hbm)))
 clear hbn p2 hbm p3 hbw hbww hp3 hcc hb2 HG H1
 go_wp2_with fail
 refine HP3.out.mono ?_
 rintro e w4 ⟨hb4,rfl⟩
 obtain⟨s0,s1,s2,s3,s4⟩:=box5 ((hb4.block _ (Array.getElem?_eq_some_iff.1 HX.out.2.1).1).trans HX.out.2.1)
 have hc4:=HX.out.2.2.below hb4
 have HL1:=hd_ (lists_any _ crH _ _ _ _ _ 3 9 w4 hc4)
 have HL2:=hd_ (fun W hW=>lists_any _ crH _ _ _ _ _ 3 10 W (hc4.below (w':=W) hW))
 have hb5:=(hb4.block _ (Array.getElem?_eq_some_iff.1 HX.out.2.1).1).trans HX.out.2.1
 have HQ:=hd_ (ai_ (below_then HX.out.1 hb4 (lr_ _)) hb5)
 clear hb4 hc4 hb5 HP3
 go_wp2_with fail
 clear s0 s1 s2 s3 s4
 refine HL1.out.mono ?_
 rintro e w5 ⟨he5,hb5⟩
 obtain rfl:e=.returned (.bool true):=he5.trans (by rw[show listsB crH 3 9=true by decide])
 obtain⟨s0,s1,s2,s3,s4⟩:=box5 ((hb5.block _ (Array.getElem?_eq_some_iff.1 HQ.out.2).1).trans HQ.out.2)
 have HL2:=hd_ (HL2.out w5 hb5)
 have HQ:=hd_ (below_then HQ.out.1 hb5 (lr_ _))
 clear hb5 he5 HL1
 go_wp2_with fail
 clear s0 s1 s2 s3 s4
 refine HL2.out.mono ?_
 rintro e w6 ⟨he6,hb6⟩
 obtain rfl:e=.returned (.bool false):=he6.trans (by rw[show listsB crH 3 10=false by decide])
 have HQ:=hd_ (below_then HT.out.2.1 (below_then HQ.out hb6 (lr_ _)) (lr_ _))
 clear hb6 he6 HL2
 go_wp2
 go_ret
 exact⟨rfl,HQ.out⟩
end Go.Proofs.YtconbejjagcnkaaGreatDoor.nmc
