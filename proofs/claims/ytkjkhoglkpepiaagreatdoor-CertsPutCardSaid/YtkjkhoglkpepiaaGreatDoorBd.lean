/- Sizes of what extensions say. The document's Node. -/
import Derived.Test.YtkjkhoglkpepiaaGreatDoorBa
import Derived.Test.YtkjkhoglkpepiaaGreatDoorAq
import Derived.Test.YtkjkhoglkpepiaaGreatDoorIf
set_option maxRecDepth 100000
set_option maxHeartbeats 32000000
set_option linter.unusedVariables false
set_option linter.unusedSimpArgs false
namespace Go.Proofs.YtkjkhoglkpepiaaGreatDoor.nmc
open Go.RowKit tlvc tlvd ndc txc txm intc intm
theorem noT_oid (l:List Int):noT (oidN l):=by unfold oidN noT noTL;exact⟨by decide,trivial⟩
theorem noT_truth:noT truthN:=by unfold truthN noT noTL;exact⟨by decide,trivial⟩
theorem noT_num (p:Int):noT (numN p):=by unfold numN noT noTL;exact⟨by decide,trivial⟩
theorem noT_zero:noT zeroN:=by unfold zeroN noT noTL;exact⟨by decide,trivial⟩
theorem noT_word (s:ByteArray):noT (wordN s):=by unfold wordN noT noTL;exact⟨by decide,trivial⟩
theorem noT_mk {t:Int}{b:List Int}{ks:List Nd}(ht:t≠23∧t≠24)(h: ∀k∈ks,noT k):noT (.mk t b ks):=by unfold noT;exact⟨ht,noTL_of h⟩
theorem noT_nil {t:Int}{b:List Int}(ht:t≠23∧t≠24):noT (.mk t b []):=noT_mk ht (fun k hk=>by cases hk)
theorem noT_map {α:Type}(f:α→Nd)(l:List α){t:Int}{b:List Int}(ht:t≠23∧t≠24)(h: ∀a,noT (f a)):noT (.mk t b (l.map f)):=noT_mk ht (fun k hk=>by obtain⟨a,_,rfl⟩:=List.mem_map.1 hk;exact h a)
theorem noT_attr (a:At):noT (attrN a):=by
 unfold attrN
 refine noT_mk (by decide) (fun k hk=>?_)
 simp only[List.mem_cons,List.mem_nil_iff,or_false] at hk
 rcases hk with rfl |rfl
 ·exact noT_nil (by decide)
 ·exact noT_nil (by decide)
theorem noT_nameZ (l:List At):noT (nameZ l):=by
 unfold nameZ
 split
 ·exact noT_map attrN l (by decide) noT_attr
 ·exact noT_zero
theorem noT_princZ (p:Pr):noT (princZ p):=by
 unfold princZ
 split
 ·unfold princN
  refine noT_mk (by decide) (fun k hk=>?_)
  simp only[List.mem_cons,List.mem_nil_iff,or_false] at hk
  rcases hk with rfl |rfl
  ·exact noT_word _
  ·exact noT_map wordN _ (by decide) noT_word
 ·exact noT_zero
theorem noT_two {a c:Bool}{n m:Nd}{t:Int}{b:List Int}(ht:t≠23∧t≠24)(h1:noT n)(h2:noT m):noT (.mk t b (onlyL a n++onlyL c m)):=noT_mk ht (fun k hk=>by
 rcases List.mem_append.1 hk with hk |hk
 ·rw[(onlyL_mem hk).2];exact h1
 ·rw[(onlyL_mem hk).2];exact h2)
theorem szL_le {L:Nat}: ∀{ks:List Nd},(∀k∈ks,szN k≤L)→szL ks≤ks.length*L
 | [],_=>by simp[szL]
 |k::ks,h=>by
  have h1:=h k (by simp)
  have h2:=szL_le (fun n hn=>h n (List.mem_cons_of_mem _ hn))
  rw[List.length_cons,Nat.add_mul]
  show szN k+szL ks≤_
  omega
theorem sz_mk (t:Int)(b:List Int)(ks:List Nd):szN (.mk t b ks)=szL ks+1:=rfl
theorem sz_oid (l:List Int):szN (oidN l)=1:=rfl
theorem sz_attr (a:At):szN (attrN a)=3:=rfl
theorem sz_word (s:ByteArray):szN (wordN s)=1:=rfl
theorem sz_name {l:List At}(h:rightN l=true):szN (nameN l)≤25:=by
 have h8:=((rightN_iff l).1 h).1
 unfold nameN
 rw[sz_mk]
 have:=szL_le (L:=3) (ks:=l.map attrN) (fun k hk=>by obtain⟨a,_,rfl⟩:=List.mem_map.1 hk;exact Nat.le_of_eq (sz_attr a))
 rw[List.length_map] at this
 omega
theorem sz_nameZ (l:List At):szN (nameZ l)≤25:=by
 unfold nameZ
 split
 ·exact sz_name (by assumption)
 ·exact(by decide:szN zeroN≤25)
theorem sz_princZ (p:Pr):szN (princZ p)≤25:=by
 unfold princZ
 split
 ·rename_i h
  have h8:=((rightP_iff p).1 h).2.2.1
  unfold princN
  rw[sz_mk]
  have:=szL_le (L:=1) (ks:=p.names.map wordN) (fun k hk=>by obtain⟨a,_,rfl⟩:=List.mem_map.1 hk;exact Nat.le_of_eq (sz_word a))
  rw[List.length_map] at this
  show szN (wordN p.realm)+ (szN (.mk 48 [] (p.names.map wordN))+szL [])+1≤25
  rw[sz_mk,sz_word]
  show 1+ (szL (p.names.map wordN)+1+0)+1≤25
  omega
 ·exact(by decide:szN zeroN≤25)
theorem szL_app (a b:List Nd):szL (a++b)=szL a+szL b:=by
 induction a with
 |nil=>simp[szL]
 |cons k ks ih=>
  show szN k+szL (ks++b)=szN k+szL ks+szL b
  omega
theorem sz_only (b:Bool)(n:Nd):szL (onlyL b n)≤szN n:=by
 unfold onlyL
 split
 ·show szN n+0≤_;omega
 ·exact Nat.zero_le _
theorem sz_says {x:Ex}(hr:rightX x=true): ∀{i:Nat},i<5→szN (saysF x i)≤20000:=by
 unfold rightX at hr
 simp only[Bool.and_eq_true] at hr
 obtain⟨h4,h5,h6,h7,_⟩:=bounded_parts hr.1.1
 have hl: ∀(g:List At→Nd) (ls:List (List At)),(∀l,szN (g l)≤25)→ls.length≤16→szL (ls.map g)≤400:=fun g ls hg hl=>by
  have:=szL_le (L:=25) (ks:=ls.map g) (fun k hk=>by obtain⟨a,_,rfl⟩:=List.mem_map.1 hk;exact hg a)
  rw[List.length_map] at this
  omega
 intro i hi
 match i,hi with
 |0,_=>
  show szL (_++_)+1≤_
  rw[szL_app]
  have a:=sz_only x.ca truthN
  have b:=sz_only (x.ca && decide (x.path≠ -1)) (numN x.path)
  have c:szN truthN=1:=rfl
  have d:szN (numN x.path)=1:=rfl
  omega
 |1,_=>exact(by omega:(1:Nat)≤20000)
 |2,_=>
  show szL (x.eku.map oidN)+1≤_
  have:=szL_le (L:=1) (ks:=x.eku.map oidN) (fun k hk=>by obtain⟨a,_,rfl⟩:=List.mem_map.1 hk;exact Nat.le_of_eq (sz_oid a))
  rw[List.length_map] at this
  omega
 |3,_=>
  show szL (x.princs.map princZ)+1≤_
  have:=szL_le (L:=25) (ks:=x.princs.map princZ) (fun k hk=>by obtain⟨a,_,rfl⟩:=List.mem_map.1 hk;exact sz_princZ a)
  rw[List.length_map] at this
  omega
 |4,_=>
  show szL (_++_)+1≤_
  rw[szL_app]
  have a:=sz_only (decide (0<x.permit.length)) (.mk 160 [] (x.permit.map nameZ))
  have b:=sz_only (decide (0<x.exclude.length)) (.mk 161 [] (x.exclude.map nameZ))
  rw[sz_mk] at a b
  have c:=hl nameZ x.permit sz_nameZ h6
  have d:=hl nameZ x.exclude sz_nameZ h7
  omega
def fiveE (x:Ex)(i:Nat):Nd:=extF ⟨koid i,kcrit i,bytesN (saysF x i)⟩
theorem kn_snoc (x:Ex)(is:List Nat)(i:Nat):knownN x (is++[i])=knownN x is++(if kthere x i=true then [fiveE x i] else []):=by
 unfold knownN
 rw[List.filter_append,List.map_append]
 congr 1
 by_cases h:kthere x i=true
 ·rw[if_pos h,List.filter_cons_of_pos h];rfl
 ·rw[if_neg h,List.filter_cons_of_neg h];rfl
theorem kn_len (x:Ex)(is:List Nat):(knownN x is).length≤is.length:=by
 unfold knownN
 rw[List.length_map]
 exact List.length_filter_le _ _
theorem odds_len: ∀{xs:List Od} {taken:List (List Int)},oddsX taken xs=true→∀o∈xs,objB o.oid=true∧o.body.length≤1024
 | [],_,_,o,ho=>by simp at ho
 |y::ys,taken,h,o,ho=>by
  unfold oddsX at h
  simp only[Bool.and_eq_true,decide_eq_true_eq] at h
  rcases List.mem_cons.1 ho with rfl |ho
  ·exact⟨h.1.1.1,h.1.1.2⟩
  ·exact odds_len h.2 o ho
theorem od_cells {B:Nat→Prop}{w W W':World}{g off:Nat}{xs:List Od}{u0 u1 u2:Value}(hL:Lst odE B w (some ⟨g,off,none⟩) xs)(hW:Below w.heap.size w W)(hW':Below w.heap.size w W')(i:Nat)(hi:i<xs.length)
 (h0:W'.cell? ⟨g,off+i*3,none⟩=some u0) (h1:W'.cell? ⟨g,off+i*3+1,none⟩=some u1) (h2:W'.cell? ⟨g,off+i*3+2,none⟩=some u2):
 W.cell? ⟨g,off+i*3,none⟩=some u0∧W.cell? ⟨g,off+i*3+1,none⟩=some u1∧W.cell? ⟨g,off+i*3+2,none⟩=some u2:=by
 obtain⟨g',off',cs,e,hg,_⟩:=hL.at i hi
 simp only[Option.some.injEq,Addr.mk.injEq,and_true] at e
 obtain⟨rfl,rfl⟩:=e
 have k: ∀j,W.cell? ⟨g,j,none⟩=W'.cell? ⟨g,j,none⟩:=fun j=>(hW.cell (p:=⟨g,j,none⟩) hg).trans (hW'.cell (p:=⟨g,j,none⟩) hg).symm
 exact⟨(k _).trans h0,(k _).trans h1,(k _).trans h2⟩
theorem rnodeX_any (B:Nat→Prop)(x:Ex)(c0 c1 c2 c3 c4 c5 c6 c7 c8:Value)(w:World)(hx:ExC B w x c0 c1 c2 c3 c4 c5 c6 c7 c8)(hr:rightX x=true)(hT:Tabs w):
 Calls Tryz.prog 37 #[.agg #[c0,c1,c2,c3,c4,c5,c6,c7,c8]] w (NVal (fun g=>w.heap.size≤g) w (nodeX x)):=by
 have mixed:Tryz.prog.follows Departure.mixedOrders=true:=by kernel_rfl
 obtain⟨A4,k4,rfl,kc4,km4,hA4⟩:=hx.eku
 obtain⟨A5,k5,rfl,kc5,km5,hA5⟩:=hx.princs
 obtain⟨A6,k6,rfl,kc6,km6,hA6⟩:=hx.permit
 obtain⟨A7,k7,rfl,kc7,km7,hA7⟩:=hx.exclude
 obtain⟨A8,k8,rfl,kc8,km8,hA8⟩:=hx.odd
 have hu16:=hx.u16
 have hi64:=hx.i64
 obtain rfl:=hx.has
 obtain rfl:=hx.ca
 obtain rfl:=hx.path
 obtain rfl:=hx.usage
 have hsz:=fun(i:Nat) (hi:i<5)=>sz_says hr hi
 have hsw:=fun(i:Nat) (hi:i<5)=>says_right hu16 hr hi
 obtain⟨b0',hw0,hy0,hl0⟩:=hsw 0 (by omega)
 obtain⟨b1',hw1,hy1,hl1⟩:=hsw 1 (by omega)
 obtain⟨b2',hw2,hy2,hl2⟩:=hsw 2 (by omega)
 obtain⟨b3',hw3,hy3,hl3⟩:=hsw 3 (by omega)
 obtain⟨b4',hw4,hy4,hl4⟩:=hsw 4 (by omega)
 have hE0:fiveE x 0=extF ⟨koid 0,kcrit 0,b0'⟩:=by unfold fiveE;rw[hy0]
 have hs0:=hsz 0 (by omega)
 have hE1:fiveE x 1=extF ⟨koid 1,kcrit 1,b1'⟩:=by unfold fiveE;rw[hy1]
 have hs1:=hsz 1 (by omega)
 have hE2:fiveE x 2=extF ⟨koid 2,kcrit 2,b2'⟩:=by unfold fiveE;rw[hy2]
 have hs2:=hsz 2 (by omega)
 have hE3:fiveE x 3=extF ⟨koid 3,kcrit 3,b3'⟩:=by unfold fiveE;rw[hy3]
 have hs3:=hsz 3 (by omega)
 have hE4:fiveE x 4=extF ⟨koid 4,kcrit 4,b4'⟩:=by unfold fiveE;rw[hy4]
 have hs4:=hsz 4 (by omega)
 have hr2:=hr
 unfold rightX at hr2
 simp only[Bool.and_eq_true] at hr2
 obtain⟨q4,q5,q6,q7,q8,qca⟩:=bounded_parts hr2.1.1
 have hod:=odds_len hr2.1.2
 have hek:=List.all_eq_true.1 (show x.eku.all objB=true from hr2.2.1.1)
 have hpr:=List.all_eq_true.1 (show x.princs.all rightP=true from hr2.2.1.2)
 have hpx:(x.permit.all rightN && x.exclude.all rightN)=true:=hr2.2.2
 rw[Bool.and_eq_true] at hpx
 have hpe:=List.all_eq_true.1 hpx.1
 have hex:=List.all_eq_true.1 hpx.2
 obtain⟨K0,hK0⟩:=nm_ (knownN x [0])
 obtain⟨K1,hK1⟩:=nm_ (knownN x [0,1])
 obtain⟨K2,hK2⟩:=nm_ (knownN x [0,1,2])
 obtain⟨K3,hK3⟩:=nm_ (knownN x [0,1,2,3])
 obtain⟨K4,hK4⟩:=nm_ (knownN x ks5)
 have s0:=kn_snoc x [] 0
 have s1:=kn_snoc x [0] 1
 have s2:=kn_snoc x [0,1] 2
 have s3:=kn_snoc x [0,1,2] 3
 have s4:=kn_snoc x [0,1,2,3] 4
 have t0:K0=([]:List Nd)++(if kthere x 0=true then [extF ⟨koid 0,kcrit 0,b0'⟩] else []):=by rw[←hE0,←hK0];exact s0
 have z0:K0.length≤5:=by rw[←hK0];exact Nat.le_trans (kn_len _ _) (by decide)
 have t1:K1=K0++(if kthere x 1=true then [extF ⟨koid 1,kcrit 1,b1'⟩] else []):=by rw[←hE1,←hK1,←hK0];exact s1
 have z1:K1.length≤5:=by rw[←hK1];exact Nat.le_trans (kn_len _ _) (by decide)
 have t2:K2=K1++(if kthere x 2=true then [extF ⟨koid 2,kcrit 2,b2'⟩] else []):=by rw[←hE2,←hK2,←hK1];exact s2
 have z2:K2.length≤5:=by rw[←hK2];exact Nat.le_trans (kn_len _ _) (by decide)
 have t3:K3=K2++(if kthere x 3=true then [extF ⟨koid 3,kcrit 3,b3'⟩] else []):=by rw[←hE3,←hK3,←hK2];exact s3
 have z3:K3.length≤5:=by rw[←hK3];exact Nat.le_trans (kn_len _ _) (by decide)
 have t4:K4=K3++(if kthere x 4=true then [extF ⟨koid 4,kcrit 4,b4'⟩] else []):=by rw[←hE4,←hK4,←hK3];exact s4
 have z4:K4.length≤5:=by rw[←hK4];exact Nat.le_trans (kn_len _ _) (by decide)
 have hnode:nodeX x=.mk 48 [] (K4++x.odd.map extF):=by rw[←hK4];rfl
 rw[hnode]
 clear s0 s1 s2 s3 s4 hK0 hK1 hK2 hK3 hK4 hE0 hE1 hE2 hE3 hE4 hy0 hy1 hy2 hy3 hy4 hsz hsw hr2 hr hpx hnode
 have e0:saysF x 0=.mk 48 [] (onlyL x.ca truthN++onlyL (x.ca && decide (x.path≠ -1)) (numN x.path)):=rfl
 have e1:saysF x 1=.mk 3 (putM x.usage) []:=rfl
 have e2:saysF x 2=.mk 48 [] (x.eku.map oidN):=rfl
 have e3:saysF x 3=.mk 48 [] (x.princs.map princZ):=rfl
 have e4:saysF x 4=.mk 48 [] (onlyL (decide (0<x.permit.length)) (.mk 160 [] (x.permit.map nameZ))++onlyL (decide (0<x.exclude.length)) (.mk 161 [] (x.exclude.map nameZ))):=rfl
 have g0:kthere x 0=x.hasCA:=rfl
 have g1:kthere x 1=decide (x.usage≠0):=rfl
 have g2:kthere x 2=decide (0<x.eku.length):=rfl
 have g3:kthere x 3=decide (0<x.princs.length):=rfl
 have g4:kthere x 4=(decide (0<x.permit.length) || decide (0<x.exclude.length)):=rfl
 rw[e0] at hw0 hs0
 rw[g0] at t0
 rw[e1] at hw1 hs1
 rw[g1] at t1
 rw[e2] at hw2 hs2
 rw[g2] at t2
 rw[e3] at hw3 hs3
 rw[g3] at t3
 rw[e4] at hw4 hs4
 rw[g4] at t4
 clear e0 e1 e2 e3 e4 g0 g1 g2 g3 g4 hx
 obtain⟨xs4,hxs4⟩:=nm_ (x.eku)
 rw[hxs4] at kc4 hA4 q4 hw2 hs2 t2 hek⊢
 obtain⟨L4,hL4⟩:=nm_ (xs4.length)
 rw[hL4] at kc4 q4 t2⊢
 have r4:k4≤9223372036854775807:=by unfold maxLen at km4;omega
 clear hxs4
 obtain⟨xs5,hxs5⟩:=nm_ (x.princs)
 rw[hxs5] at kc5 hA5 q5 hw3 hs3 t3 hpr⊢
 obtain⟨L5,hL5⟩:=nm_ (xs5.length)
 rw[hL5] at kc5 q5 t3⊢
 have r5:k5≤9223372036854775807:=by unfold maxLen at km5;omega
 clear hxs5
 obtain⟨xs6,hxs6⟩:=nm_ (x.permit)
 rw[hxs6] at kc6 hA6 q6 hw4 hs4 t4 hpe⊢
 obtain⟨L6,hL6⟩:=nm_ (xs6.length)
 rw[hL6] at kc6 q6 t4 hw4 hs4⊢
 have r6:k6≤9223372036854775807:=by unfold maxLen at km6;omega
 clear hxs6
 obtain⟨xs7,hxs7⟩:=nm_ (x.exclude)
 rw[hxs7] at kc7 hA7 q7 hw4 hs4 t4 hex⊢
 obtain⟨L7,hL7⟩:=nm_ (xs7.length)
 rw[hL7] at kc7 q7 t4 hw4 hs4⊢
 have r7:k7≤9223372036854775807:=by unfold maxLen at km7;omega
 clear hxs7
 obtain⟨xs8,hxs8⟩:=nm_ (x.odd)
 rw[hxs8] at kc8 hA8 q8 hod⊢
 obtain⟨L8,hL8⟩:=nm_ (xs8.length)
 rw[hL8] at kc8 q8⊢
 have r8:k8≤9223372036854775807:=by unfold maxLen at km8;omega
 clear hxs8
 obtain⟨b0,hb0⟩:=nm_ (x.hasCA)
 obtain⟨b1,hb1⟩:=nm_ (x.ca)
 obtain⟨b2,hb2⟩:=nm_ (x.path)
 obtain⟨b3,hb3⟩:=nm_ (x.usage)
 rw[hb0,hb1,hb2] at qca
 rw[hb0] at t0
 rw[hb1,hb2] at hw0 hs0
 rw[hb3] at t1 hw1 hs1 hu16
 rw[hb2] at hi64
 rw[hb0,hb1,hb2,hb3]
 clear hb0 hb1 hb2 hb3
 obtain⟨W0,hW0⟩:=nm_ ((w.alloc (.cells #[.bool b0,.bool b1,.int .i64 b2,.int .u16 b3,.slice A4 L4 k4,.slice A5 L5 k5,.slice A6 L6 k6,.slice A7 L7 k7,.slice A8 L8 k8] 30)).alloc (.cells #[.int .u8 0,.slice none 0 0,.slice none 0 0] 43))
 have hb0:Below w.heap.size w W0:=by rw[←hW0];exact(below_new _ _).alloc (by simp) _
 have p0:W0.heap[w.heap.size+1]? =some (.cells #[.int .u8 0,.slice none 0 0,.slice none 0 0] 43):=by rw[←hW0];exact heap_is (by simp)
 have q0:W0.heap[w.heap.size]? =some (.cells #[.bool b0,.bool b1,.int .i64 b2,.int .u16 b3,.slice A4 L4 k4,.slice A5 L5 k5,.slice A6 L6 k6,.slice A7 L7 k7,.slice A8 L8 k8] 30):=by rw[←hW0,heap_old_ _ _ (by simp)];exact heap_new_ _ _
 have hz0:W0.heap.size=w.heap.size+2:=by rw[←hW0];simp
 obtain⟨s0,s1,s2,s3,s4,s5,s6,s7,s8⟩:=box9 (br_ _ W0) q0
 have HX0:=hd_ (fun W (hW:Below W0.heap.size W0 W)=>cell_on hW s0)
 have HX1:=hd_ (fun W (hW:Below W0.heap.size W0 W)=>cell_on hW s1)
 have HX2:=hd_ (fun W (hW:Below W0.heap.size W0 W)=>cell_on hW s2)
 have HX3:=hd_ (fun W (hW:Below W0.heap.size W0 W)=>cell_on hW s3)
 have HX4:=hd_ (fun W (hW:Below W0.heap.size W0 W)=>cell_on hW s4)
 have HX5:=hd_ (fun W (hW:Below W0.heap.size W0 W)=>cell_on hW s5)
 have HX6:=hd_ (fun W (hW:Below W0.heap.size W0 W)=>cell_on hW s6)
 have HX7:=hd_ (fun W (hW:Below W0.heap.size W0 W)=>cell_on hW s7)
 have HX8:=hd_ (fun W (hW:Below W0.heap.size W0 W)=>cell_on hW s8)
 have HL4:=hd_ (ai_ hL4 (ai_ hA4 (ai_ kc4 (ai_ km4 q4))))
 have HL5:=hd_ (ai_ hL5 (ai_ hA5 (ai_ kc5 (ai_ km5 q5))))
 have HL6:=hd_ (ai_ hL6 (ai_ hA6 (ai_ kc6 (ai_ km6 q6))))
 have HL7:=hd_ (ai_ hL7 (ai_ hA7 (ai_ kc7 (ai_ km7 q7))))
 have HL8:=hd_ (ai_ hL8 (ai_ hA8 (ai_ kc8 (ai_ km8 q8))))
 have HB:=hd_ (ai_ hb0 (ai_ p0 (ai_ hz0 hT)))
 have HW0:=hd_ (ai_ hw0 (ai_ hs0 (ai_ hl0 (ai_ t0 z0))))
 have HW1:=hd_ (ai_ hw1 (ai_ hs1 (ai_ hl1 (ai_ t1 z1))))
 have HW2:=hd_ (ai_ hw2 (ai_ hs2 (ai_ hl2 (ai_ t2 z2))))
 have HW3:=hd_ (ai_ hw3 (ai_ hs3 (ai_ hl3 (ai_ t3 z3))))
 have HW4:=hd_ (ai_ hw4 (ai_ hs4 (ai_ hl4 (ai_ t4 z4))))
 have HP:=hd_ (ai_ hek (ai_ hpr (ai_ hpe (ai_ hex hod))))
 have HU:=hd_ (ai_ hu16 (ai_ hi64 qca))
 clear hb0 p0 q0 hz0 hT hu16 hi64 qca hek hpr hpe hex hod hL4 hA4 kc4 km4 q4 hL5 hA5 kc5 km5 q5 hL6 hA6 kc6 km6 q6 hL7 hA7 kc7 km7 q7 hL8 hA8 kc8 km8 q8 hw0 hs0 hl0 t0 z0 hw1 hs1 hl1 t1 z1 hw2 hs2 hl2 t2 z2 hw3 hs3 hl3 t3 z3 hw4 hs4 hl4 t4 z4
 go_enter Tryz.func37,Tryz.ntmps37
 go_upto_if 12 with fail
 have HLI:=hd_ (show([]:List Nd).length=0∧LInv ndE 43 (fun g=>W0.heap.size≤g) W0 (.slice none 0 0) [] W0 from⟨rfl,LInv.start⟩)
 have HLE:=hd_ (show(0:Nat)≤5 by omega)
 clear s0 s1 s2 s3 s4 s5 s6 s7 s8
 have x0:=HX0.out W0 (br_ _ _)
 have x1:=HX1.out W0 (br_ _ _)
 have x2:=HX2.out W0 (br_ _ _)
 go_cut [3] (fun s3 wx=>∃(Av:Option Addr) (kv cv:Nat),s3=.slice Av kv cv∧Hid (K0.length=kv∧LInv ndE 43 (fun g=>W0.heap.size≤g) W0 (.slice Av kv cv) K0 wx))
 case first=>as_aux_lemma=>
  cases b0
  ·have HTK:=hd_ (show K0=[] from HW0.out.2.2.2.1)
   (try simp only[hW0])
   have hfin:=hd_ (show K0.length=0∧LInv ndE 43 (fun g=>W0.heap.size≤g) W0 (.slice none 0 0) K0 _ from by rw[HTK.out];exact HLI.out)
   go_wp2_with fail
   go_meet
   exact⟨_,_,_,rfl,hfin⟩
  ·have HTK:=hd_ (show K0=[]++[extF ⟨koid 0,kcrit 0,b0'⟩] from HW0.out.2.2.2.1)
   (try simp only[hW0])
   go_upto_if 14 with fail
   (try simp only[hW0])
   go_cut [4] (fun s4 wx=>∃(A4':Option Addr) (k4' c4':Nat),s4=.slice A4' k4' c4'∧Hid ((onlyL b1 truthN).length=k4'∧LInv ndE 43 (fun g=>W0.heap.size≤g) W0 (.slice A4' k4' c4') (onlyL b1 truthN) wx))
   case first=>
    cases b1
    ·have hfin:=hd_ (show(onlyL false truthN).length=0∧LInv ndE 43 (fun g=>W0.heap.size≤g) W0 (.slice none 0 0) (onlyL false truthN) W0 from⟨rfl,LInv.start⟩)
     go_wp2_with fail
     go_meet
     exact⟨_,_,_,rfl,hfin⟩
    ·have HT1:=hd_ (rtruth_any true W0)
     go_wp2_with fail
     refine HT1.out.mono ?_
     rintro e y1 ⟨hby1,u1,U1,u2,u3,U2,u4,u5,rfl,hud⟩
     obtain⟨A7',c7,w7,hrun,hL7⟩:=(LInv.start (E:=ndE) (e:=43) (Y:=fun g=>W0.heap.size≤g) (W0:=W0)).node (fun g h=>h) hby1 hud (by simp[onlyL])
     have hfin:=hd_ (show(onlyL true truthN).length=1∧LInv ndE 43 (fun g=>W0.heap.size≤g) W0 (.slice A7' 1 c7) (onlyL true truthN) w7 from⟨rfl,hL7⟩)
     have hrun:(Builtin.append_ #[41,41] 41 #[.slice none 0 0,.slice (some ⟨y1.heap.size,0,none⟩) 1 1]).run Tryz.prog (y1.alloc (.cells #[.int .u8 u1,.slice U1 u2 u3,.slice U2 u4 u5] 43))=.ok (.slice A7' 1 c7) w7:=hrun
     clear hL7 hby1 hud HT1
     go_wp2_with (at_builtin;refine wpl_append rfl (.tmp 15) (.tmp 17) 41 rfl _ _ _ rfl rfl hrun ?_)
     clear hrun
     go_wp2_with fail
     go_meet
     exact⟨_,_,_,rfl,hfin⟩
   case rest=>
    obtain⟨A4',k4',c4',rfl,H4⟩:=hcut
    obtain⟨wa,hwa⟩:=nm_ (wc)
    rw[hwa] at H4⊢
    clear hwa wc
    clear x0 x1 x2
    have x0:=HX0.out wa H4.out.2.bel
    have x1:=HX1.out wa H4.out.2.bel
    have x2:=HX2.out wa H4.out.2.bel
    have HOL:=hd_ (show((onlyL b1 truthN++onlyL (b1 && decide (b2≠ -1)) (numN b2)).length≤2) from by cases b1<;>(simp[onlyL];try (split<;>simp)))
    go_upto_region 6 with fail
    go_cut [25] (fun s25 wx=>s25=.bool (b1 && decide (0≤b2))∧wx=wa)
    case first=>
     cases b1
     ·go_wp2_with fail
      go_meet
      exact⟨rfl,rfl⟩
     ·by_cases hp:0≤b2
      ·have hp2:b2≥0:=hp
       have hd:=hd_ (decide_eq_true hp)
       go_wp2_with fail
       go_meet
       exact⟨by rw[hd.out];rfl,rfl⟩
      ·have hp2: ¬b2≥0:=hp
       have hd:=hd_ (decide_eq_false hp)
       go_wp2_with fail
       go_meet
       exact⟨by rw[hd.out];rfl,rfl⟩
    case rest=>
     obtain⟨rfl,hwc⟩:=hcut
     rw[hwc]
     clear hwc wc
     obtain⟨nm,hnm⟩:=nm_ ((b1 && decide (0≤b2)))
     rw[hnm]
     have HNM:=hd_ hnm
     clear hnm
     go_upto_if 25 with fail
     go_cut [4] (fun s4 wx=>∃(A5':Option Addr) (k5' c5':Nat),s4=.slice A5' k5' c5'∧Hid (((onlyL b1 truthN++onlyL (b1 && decide (b2≠ -1)) (numN b2))).length=k5'∧LInv ndE 43 (fun g=>W0.heap.size≤g) W0 (.slice A5' k5' c5') (onlyL b1 truthN++onlyL (b1 && decide (b2≠ -1)) (numN b2)) wx))
     case first=>
      cases nm
      ·have he:onlyL (b1 && decide (b2≠ -1)) (numN b2)=[]:=by
        have hnm:=HNM.out
        cases b1
        ·rfl
        ·have hq:=HU.out.2.2
         rw[if_pos rfl] at hq
         simp only[Bool.and_eq_true,decide_eq_true_eq] at hq
         rw[Bool.true_and,decide_eq_false_iff_not] at hnm
         rw[decide_eq_false (show¬b2≠ -1 by omega)]
         rfl
       have hfin:=hd_ (show(onlyL b1 truthN++onlyL (b1 && decide (b2≠ -1)) (numN b2)).length=k4'∧LInv ndE 43 (fun g=>W0.heap.size≤g) W0 (.slice A4' k4' c4') (onlyL b1 truthN++onlyL (b1 && decide (b2≠ -1)) (numN b2)) wa from by rw[he,List.append_nil];exact H4.out)
       clear he
       go_wp2_with fail
       go_meet
       exact⟨_,_,_,rfl,hfin⟩
      ·have hb12:b1=true∧0≤b2:=by have h:=HNM.out;rw[Bool.and_eq_true,decide_eq_true_eq] at h;exact h
       have he:onlyL b1 truthN++onlyL (b1 && decide (b2≠ -1)) (numN b2)=onlyL b1 truthN++[numN b2]:=by rw[hb12.1,Bool.true_and,decide_eq_true (show b2≠ -1 by omega)];rfl
       have HT1:=hd_ (rint_any b2 wa HU.out.2.1)
       have HHE:=hd_ he
       clear hb12 he
       go_wp2_with fail
       refine HT1.out.mono ?_
       rintro e y1 ⟨hby1,u1,U1,u2,u3,U2,u4,u5,rfl,hud⟩
       obtain⟨A7',c7,w7,hrun,hL7⟩:=H4.out.2.node (fun g h=>h) hby1 hud (by have:=onlyL_len b1 truthN;omega)
       rw[H4.out.1] at hrun hL7
       have hfin:=hd_ (show(onlyL b1 truthN++onlyL (b1 && decide (b2≠ -1)) (numN b2)).length=k4'+1∧LInv ndE 43 (fun g=>W0.heap.size≤g) W0 (.slice A7' (k4'+1) c7) (onlyL b1 truthN++onlyL (b1 && decide (b2≠ -1)) (numN b2)) w7 from by rw[HHE.out];exact⟨by rw[List.length_append,H4.out.1];rfl,hL7⟩)
       clear hL7 hby1 hud HT1
       go_wp2_with (at_builtin;refine wpl_append rfl (.tmp 26) (.tmp 30) 41 rfl _ _ _ rfl rfl hrun ?_)
       clear hrun
       go_wp2_with fail
       go_meet
       exact⟨_,_,_,rfl,hfin⟩
     case rest=>
      obtain⟨A5',k5',c5',rfl,H5⟩:=hcut
      obtain⟨wk,hwk⟩:=nm_ (wc)
      rw[hwk] at H5⊢
      clear hwk wc x0 x1 x2 H4
      obtain⟨Ae,ce,ee,hce1,hce2,hLe⟩:=H5.out.2.row.lst (fun g h=>h)
      rw[H5.out.1] at ee hce1
      simp only[Value.slice.injEq] at ee
      obtain⟨rfl,_,rfl⟩:=ee
      have HK:=hd_ (ai_ H5.out.2.bel (ai_ H5.out.1 (ai_ hce1 (ai_ hce2 (hLe.mono (S':=fun _=>True) (fun _ _=>trivial))))))
      clear hce1 hce2 hLe
      have hkn:=rknown_any 0 wk (by omega)
      rw[show((0:Nat):Int)=0 from rfl] at hkn
      have HKN:=hd_ hkn
      clear hkn
      go_wp2_with fail
      refine HKN.out.mono ?_
      rintro e y1 ⟨gk1,rfl,hg1,hge1,hby1⟩
      have HQ:=hd_ (rseq_any (fun _=>True) 48 A5' k5' c5' _ y1 (by omega) HK.out.2.1 HK.out.2.2.1 HK.out.2.2.2.1 (HK.out.2.2.2.2.below hby1))
      have HG:=hd_ (ai_ hg1 hby1)
      clear hg1 hge1 hby1 HKN
      go_wp2_with fail
      refine HQ.out.mono ?_
      rintro e y2 ⟨hby2,u1,U1,u2,u3,U2,u4,u5,rfl,hud⟩
      have hB2:=below_then HK.out.1 (below_then HG.out.2 hby2 (lr_ _)) (lr_ _)
      have HQ2:=hd_ (rbytes_any _ _ b0' _ _ _ y2 hud HW0.out.2.1 (noT_two (by decide) noT_truth (noT_num _)) HW0.out.1 (HB.out.2.2.2.below (below_then HB.out.1 (below_then HLI.out.2.bel hB2 (lr_ _)) (lr_ _))))
      have HG2:=hd_ (ai_ (HG.out.1.below hby2) hB2)
      clear hby2 hud hB2 HQ
      go_wp2_with fail
      refine HQ2.out.mono ?_
      rintro e y3 ⟨hby3,U3,u6,rfl,hy3,hc3,hm3,_⟩
      have hx1:=rext_any (some ⟨gk1,0,none⟩) 4 4 U3 b0'.length u6 true (koid 0) b0' y3 (koid_obj (by omega)) (HG2.out.1.below hby3) (lr_ _) (by unfold maxLen;omega) hy3 hc3 hm3 (by have:=HW0.out.2.2.1;omega)
      have HQ3:=hd_ hx1
      have HG3:=hd_ (below_then HG2.out.2 hby3 (lr_ _))
      obtain⟨lb,hlb⟩:=nm_ (b0'.length)
      rw[hlb] at HQ3⊢
      clear hby3 hy3 hc3 hm3 hx1 HQ2 HG HG2 hlb
      go_wp2_with fail
      refine HQ3.out.mono ?_
      rintro e y4 ⟨hby4,u7,U4,u8,u9,U5,u10,u11,rfl,hxd⟩
      obtain⟨A7',c7,w7,hrun,hL7⟩:=HLI.out.2.node (fun g h=>h) (below_then HG3.out hby4 (lr_ _)) (NdC.mono (fun g hg=>Nat.le_trans HG3.out.size hg) _ _ _ _ hxd) (by rw[HLI.out.1];exact Nat.le_trans HLE.out (by omega))
      rw[HLI.out.1] at hrun hL7
      have H7:=hd_ hL7
      clear hL7 hby4 hxd HQ3 HG3
      go_wp2_with (at_builtin;refine wpl_append rfl (.tmp 32) (.tmp 38) 41 rfl _ _ _ rfl rfl hrun ?_)
      clear hrun
      have hfin:=hd_ (show K0.length=0+1∧LInv ndE 43 (fun g=>W0.heap.size≤g) W0 (.slice A7' (0+1) c7) K0 w7 from by rw[HTK.out];exact⟨by rw[List.length_append,HLI.out.1];rfl,H7.out⟩)
      clear H7
      go_wp2_with fail
      go_meet
      exact⟨_,_,_,rfl,hfin⟩
 case rest=>
  clear x0 x1 x2 HLI HLE
  obtain⟨Av,kv,cv,rfl,HLI⟩:=hcut
  obtain⟨wa,hwa⟩:=nm_ (wc)
  rw[hwa] at HLI⊢
  clear hwa wc
  have HLE:=hd_ (show kv≤5 from by rw[←HLI.out.1];exact HW0.out.2.2.2.2)
  have x3:=HX3.out wa HLI.out.2.bel
  go_upto_if 42 with fail
  go_cut [3] (fun s3 wx=>∃(Av:Option Addr) (kv cv:Nat),s3=.slice Av kv cv∧Hid (K1.length=kv∧LInv ndE 43 (fun g=>W0.heap.size≤g) W0 (.slice Av kv cv) K1 wx))
  case first=>as_aux_lemma=>
   by_cases hu0:b3=0
   ·have HTK:=hd_ (show K1=K0 from by have h:=HW1.out.2.2.2.1;rw[decide_eq_false (by simpa using hu0),if_neg (by decide),List.append_nil] at h;exact h)
    subst hu0
    have hfin:=hd_ (show K1.length=kv∧LInv ndE 43 (fun g=>W0.heap.size≤g) W0 (.slice Av kv cv) K1 _ from by rw[HTK.out];exact HLI.out)
    go_wp2_with fail
    go_meet
    exact⟨_,_,_,rfl,hfin⟩
   ·have HTK:=hd_ (show K1=K0++[extF ⟨koid 1,kcrit 1,b1'⟩] from by have h:=HW1.out.2.2.2.1;rw[decide_eq_true (show b3≠0 from hu0),if_pos rfl] at h;exact h)
    have hu1:(b3 !=0)=true:=by simpa using hu0
    clear hu0
    go_wp2_with fail
    clear hu1
    try dsimp only
    refine wp_region_noPanic ?_
    refine wp_region_held_drew (S:=fun wx:World=>wx.cell? ⟨w.heap.size,3,none⟩=some (.int .u16 b3)) mixed x3 (fun hHeld=>?_)
    have hbd:=below_drew wa
    obtain⟨wd,hwd⟩:=nm_ (wa.drew)
    rw[hwd] at hHeld hbd⊢
    clear hwd
    have hkn:=fun W=>rknown_any 1 W (by omega)
    simp only[show((1:Nat):Int)=1 from rfl] at hkn
    refine tk_ (i:=0) (z:=?_)
    refine tk_ (i:=2) (z:=?_)
    refine tk_ (i:=3) (z:=?_)
    refine on_ (i:=1) (z:=fun KK hKK=>?_)
    go_simp
    refine(hkn _).mono ?_
    rintro e y1 ⟨gk1,rfl,hg1,hge1,hby1⟩
    dsimp only
    have hbb:=below_then hbd hby1 (lr_ _)
    refine hKK.out _ _ (HX3.out _ (below_then HLI.out.2.bel hbb (lr_ _))) (fun hHeld=>?_)
    clear hKK KK
    try simp only[Act.put,qa_,qb_,qc_]
    refine on_ (i:=4) (z:=fun KK hKK=>?_)
    go_simp
    refine(refPutBits_any b3 y1 HU.out.1).mono ?_
    rintro e y2 ⟨U1,u1,rfl,hh2,hby2⟩
    dsimp only
    have hg1:=hg1.below hby2
    have hbb:=below_then hbb hby2 (lr_ _)
    refine hKK.out _ _ (HX3.out _ (below_then HLI.out.2.bel hbb (lr_ _))) (fun hHeld=>?_)
    clear hKK KK
    try simp only[Act.put,qa_,qb_,qc_]
    refine tk_ (i:=5) (z:=?_)
    have hbt:=HB.out.2.2.2.below (below_then HB.out.1 (below_then HLI.out.2.bel hbb (lr_ _)) (lr_ _))
    have hnd:NdC (fun _=>True) y2 (.mk 3 (putM b3) []) (.int .u8 3) (.slice U1 (putM b3).length u1) (.slice none 0 0):=ndC_leaf (by omega) hh2.2.1 hh2.2.2.1 hh2.1 (fun _ _ _ _ _=>trivial)
    refine on_ (i:=6) (z:=fun KK hKK=>?_)
    go_simp
    refine(rbytes_any _ _ b1' _ _ _ y2 hnd HW1.out.2.1 (noT_nil (by decide)) HW1.out.1 hbt).mono ?_
    rintro e y3 ⟨hby3,U3,u6,rfl,hy3,hc3,hm3,_⟩
    dsimp only
    have hg1:=hg1.below hby3
    have hbb:=below_then hbb hby3 (lr_ _)
    refine hKK.out _ _ (HX3.out _ (below_then HLI.out.2.bel hbb (lr_ _))) (fun hHeld=>?_)
    clear hKK KK
    try simp only[Act.put,qa_,qb_,qc_]
    refine on_ (i:=7) (z:=fun KK hKK=>?_)
    go_simp
    refine(rext_any (some ⟨gk1,0,none⟩) 4 4 U3 b1'.length u6 true (koid 1) b1' y3 (koid_obj (by omega)) hg1 (lr_ _) (by unfold maxLen;omega) hy3 hc3 hm3 (by have:=HW1.out.2.2.1;omega)).mono ?_
    rintro e y4 ⟨hby4,u7,U4,u8,u9,U5,u10,u11,rfl,hxd⟩
    dsimp only
    have hxd2:=NdC.mono (B':=fun g=>wa.heap.size≤g) (fun g hg=>Nat.le_trans hbb.size hg) _ _ _ _ hxd
    have hbb:=below_then hbb hby4 (lr_ _)
    refine hKK.out _ _ (HX3.out _ (below_then HLI.out.2.bel hbb (lr_ _))) (fun hHeld=>?_)
    clear hKK KK
    try simp only[Act.put,qa_,qb_,qc_]
    obtain⟨A7',c7,w7,hrun,hL7⟩:=HLI.out.2.node (fun g h=>h) hbb hxd2 (by rw[HLI.out.1];exact Nat.le_trans HLE.out (by omega))
    rw[HLI.out.1] at hrun hL7
    have H7:=hd_ hL7
    refine on_ (i:=8) (z:=fun KK hKK=>?_)
    go_simp
    have hbb5:=below_then hbb (below_new y4 (.cells #[.int .u8 u7,.slice U4 u8 u9,.slice U5 u10 u11] 43)) (lr_ _)
    refine hKK.out _ _ (HX3.out _ (below_then HLI.out.2.bel hbb5 (lr_ _))) (fun hHeld=>?_)
    clear hKK KK
    try simp only[Act.put,qa_,qb_,qc_]
    refine on_ (i:=9) (o:=⟨_,_,_,_,_,_⟩) (z:=fun KK hKK=>?_)
    refine step_run rfl (.tmp 43) (.tmp 51) 41 rfl _ _ _ (by first |rfl |simp[Act.eval,Act.put]) (by first |rfl |simp[Act.eval,Act.put]) hrun (hKK.out _ _ (HX3.out _ hL7.bel) (fun hHeld=>?_))
    clear hKK KK
    try simp only[Act.put,qa_,qb_,qc_]
    refine tk_ (i:=10) (z:=?_)
    refine wpAnyH_done (by kernel_rfl) ?_ _
    refine NoPanic.normal ?_
    clear hHeld hL7 hbb5 hbb hxd hxd2 hby4 hy3 hc3 hm3 hby3 hnd hbt hh2 hby2 hby1 hg1 hge1 hrun hkn x3
    have hfin:=hd_ (show K1.length=kv+1∧LInv ndE 43 (fun g=>W0.heap.size≤g) W0 (.slice A7' (kv+1) c7) K1 w7 from by rw[HTK.out];exact⟨by rw[List.length_append,HLI.out.1];rfl,H7.out⟩)
    clear H7
    go_wp2_with fail
    go_meet
    exact⟨_,_,_,rfl,hfin⟩
  case rest=>
   clear x3 HLI HLE
   obtain⟨Av,kv,cv,rfl,HLI⟩:=hcut
   obtain⟨wa,hwa⟩:=nm_ (wc)
   rw[hwa] at HLI⊢
   clear hwa wc
   have HLE:=hd_ (show kv≤5 from by rw[←HLI.out.1];exact HW1.out.2.2.2.2)
   have x4:=HX4.out wa HLI.out.2.bel
   go_upto_if 56 with fail
   go_cut [3] (fun s3 wx=>∃(Av:Option Addr) (kv cv:Nat),s3=.slice Av kv cv∧Hid (K2.length=kv∧LInv ndE 43 (fun g=>W0.heap.size≤g) W0 (.slice Av kv cv) K2 wx))
   case first=>as_aux_lemma=>
    by_cases hn0:0<L4
    ·have HTK:=hd_ (show K2=K1++[extF ⟨koid 2,kcrit 2,b2'⟩] from by have h:=HW2.out.2.2.2.1;rw[decide_eq_true hn0,if_pos rfl] at h;exact h)
     have hn1:(L4:Int)>0:=by omega
     have hn2:(0:Int)< (L4:Int):=by omega
     go_wp2_with fail
     (try rw[decide_eq_true hn0])
     clear hn0
     (try clear hn1)
     (try clear hn2)
     clear x4
     go_loopg [5,6] (L4+1) (fun gk sa sb wx=>∃(i:Nat) (Aw:Option Addr) (cw:Nat),sa=.slice Aw i cw∧sb=.int .i64 i∧i≤L4∧L4 - i<gk∧Hid (LInv ndE 43 (fun g=>wa.heap.size≤g) wa (.slice Aw i cw) ((xs4.take i).map oidN) wx))
     case atStart=>exact⟨0,none,0,rfl,rfl,by omega,by omega,hd_ LInv.start⟩
     case round=>
      obtain⟨i,Aw,cw,rfl,rfl,hi,hgk,HI⟩:=hrel
      have hlk:((xs4.take i).map oidN).length=i:=by rw[List.length_map,List.length_take];have:=HL4.out.1;omega
      have hbw:=below_then HB.out.1 (below_then HLI.out.2.bel HI.out.bel (lr_ _)) (lr_ _)
      have x4:=HX4.out wr (below_then HLI.out.2.bel HI.out.bel (lr_ _))
      by_cases hlt:i<L4
      ·have hltz:(i:Int)< (L4:Int):=by omega
       obtain⟨gk',rfl⟩: ∃g',gk=g'+1:=⟨gk - 1,by omega⟩
       have HN:=hd_ (ai_ (show i+1≤L4 from hlt) (show L4 - (i+1)<gk' by omega))
       have hix:i<xs4.length:=by rw[HL4.out.1];exact hlt
       obtain⟨g,off,cs,rfl,hg,hcell,hold⟩:=(HL4.out.2.1.below hbw).at i hix
       have hnx:(xs4.take i).map oidN++[oidN xs4[i]]=(xs4.take (i+1)).map oidN:=by rw[List.take_succ_eq_append_getElem hix,List.map_append,List.map_cons,List.map_nil]
       have hok:=HP.out.1 xs4[i] (List.getElem_mem hix)
       obtain⟨y,hy⟩:=nm_ (xs4[i])
       rw[hy] at hold hnx hok
       clear hy
       obtain⟨e0,rfl,a,la,ca,rfl,h1,h2,h3,_⟩:=hold
       rw[oidN_of hok] at hnx
       have hC:=roid_any a la ca y wr hok h3 h1 h2
       have e0:=hcell 0 _ rfl
       rw[show inE.sz=1 from rfl] at e0
       simp only[Nat.add_zero,Nat.mul_one] at e0
       obtain⟨nd,hnd⟩:=nm_ (Nd.mk 6 (encO y) [])
       rw[hnd] at hC hnx
       have HC:=hd_ hC
       have HY:=hd_ (ai_ hlk hnx)
       have i1:(0:Int)≤(i:Int):=by omega
       clear hC hlk hnx hok hnd hcell hgk hbw h1 h2 h3
       go_wp2_with fail
       refine HC.out.mono ?_
       rintro e w3 ⟨hb3,t3,A3,l3,k3,K3',m3,j3,rfl,hd3⟩
       obtain⟨A7',c7,w7,hrun,hL7⟩:=HI.out.node (fun g h=>h) hb3 hd3 (by rw[HY.out.1];have:=HL4.out.2.2.2.2;omega)
       rw[HY.out.1] at hrun hL7
       rw[HY.out.2] at hL7
       have H7:=hd_ hL7
       clear hL7 hb3 hd3 HC HI e0 x4
       have hib:(i:Int)+1≤9223372036854775807:=by have h1:=HN.out.1;have h2:=HL4.out.2.2.2.2;omega
       go_wp2_with (at_builtin;refine wpl_append rfl (.tmp 64) (.tmp 71) 41 rfl _ _ _ rfl rfl hrun ?_)
       clear hrun
       go_wp2
       go_roundg gk'
       case measure=>omega
       case rel=>exact⟨i+1,A7',c7,rfl,by go_num,HN.out.1,HN.out.2,H7⟩
      ·obtain rfl:L4=i:=by omega
       have hltz: ¬(L4:Int)< (L4:Int):=by omega
       have htk:(xs4.take L4).map oidN=xs4.map oidN:=by rw[List.take_of_length_le (Nat.le_of_eq HL4.out.1)]
       have hLI:=HI.out
       rw[htk] at hLI hlk
       obtain⟨Ae,ce,ee,hce1,hce2,hLe⟩:=hLI.row.lst (fun g h=>h)
       rw[hlk] at ee hce1
       simp only[Value.slice.injEq] at ee
       obtain⟨rfl,_,rfl⟩:=ee
       have HK:=hd_ (ai_ hLI.bel (ai_ hlk (ai_ hce1 (ai_ hce2 (hLe.mono (S':=fun _=>True) (fun _ _=>trivial))))))
       clear hce1 hce2 hLe hLI hlk htk HI hbw hgk hlt hi
       have hkn:=rknown_any 2 wr (by omega)
       rw[show((2:Nat):Int)=2 from rfl] at hkn
       have HKN:=hd_ hkn
       clear hkn
       go_wp2_with fail
       refine HKN.out.mono ?_
       rintro e y1 ⟨gk1,rfl,hg1,hge1,hby1⟩
       have HQ:=hd_ (rseq_any (fun _=>True) 48 Aw L4 cw _ y1 (by omega) HK.out.2.1 HK.out.2.2.1 HK.out.2.2.2.1 (HK.out.2.2.2.2.below hby1))
       have HG:=hd_ (ai_ hg1 hby1)
       clear hg1 hge1 hby1 HKN
       go_wp2_with fail
       refine HQ.out.mono ?_
       rintro e y2 ⟨hby2,u1,U1,u2,u3,U2,u4,u5,rfl,hud⟩
       have hB2:=below_then HK.out.1 (below_then HG.out.2 hby2 (lr_ _)) (lr_ _)
       have HQ2:=hd_ (rbytes_any _ _ b2' _ _ _ y2 hud HW2.out.2.1 (noT_map oidN _ (by decide) noT_oid) HW2.out.1 (HB.out.2.2.2.below (below_then HB.out.1 (below_then HLI.out.2.bel hB2 (lr_ _)) (lr_ _))))
       have HG2:=hd_ (ai_ (HG.out.1.below hby2) hB2)
       clear hby2 hud hB2 HQ
       go_wp2_with fail
       refine HQ2.out.mono ?_
       rintro e y3 ⟨hby3,U3,u6,rfl,hy3,hc3,hm3,_⟩
       have hx1:=rext_any (some ⟨gk1,0,none⟩) 4 4 U3 b2'.length u6 false (koid 2) b2' y3 (koid_obj (by omega)) (HG2.out.1.below hby3) (lr_ _) (by unfold maxLen;omega) hy3 hc3 hm3 (by have:=HW2.out.2.2.1;omega)
       have HQ3:=hd_ hx1
       have HG3:=hd_ (below_then HG2.out.2 hby3 (lr_ _))
       obtain⟨lb,hlb⟩:=nm_ (b2'.length)
       rw[hlb] at HQ3⊢
       clear hby3 hy3 hc3 hm3 hx1 HQ2 HG HG2 hlb
       go_wp2_with fail
       refine HQ3.out.mono ?_
       rintro e y4 ⟨hby4,u7,U4,u8,u9,U5,u10,u11,rfl,hxd⟩
       obtain⟨A7',c7,w7,hrun,hL7⟩:=HLI.out.2.node (fun g h=>h) (below_then HG3.out hby4 (lr_ _)) (NdC.mono (fun g hg=>Nat.le_trans HG3.out.size hg) _ _ _ _ hxd) (by rw[HLI.out.1];exact Nat.le_trans HLE.out (by omega))
       rw[HLI.out.1] at hrun hL7
       have H7:=hd_ hL7
       clear hL7 hby4 hxd HQ3 HG3
       go_wp2_with (at_builtin;refine wpl_append rfl (.tmp 73) (.tmp 79) 41 rfl _ _ _ rfl rfl hrun ?_)
       clear hrun
       have hfin:=hd_ (show K2.length=kv+1∧LInv ndE 43 (fun g=>W0.heap.size≤g) W0 (.slice A7' (kv+1) c7) K2 w7 from by rw[HTK.out];exact⟨by rw[List.length_append,HLI.out.1];rfl,H7.out⟩)
       clear H7
       go_wp2_with fail
       go_meet
       exact⟨_,_,_,rfl,hfin⟩
    ·have HTK:=hd_ (show K2=K1 from by have h:=HW2.out.2.2.2.1;rw[decide_eq_false hn0,if_neg (by decide),List.append_nil] at h;exact h)
     obtain rfl:L4=0:=by omega
     clear hn0
     have hfin:=hd_ (show K2.length=kv∧LInv ndE 43 (fun g=>W0.heap.size≤g) W0 (.slice Av kv cv) K2 _ from by rw[HTK.out];exact HLI.out)
     go_wp2_with fail
     go_meet
     exact⟨_,_,_,rfl,hfin⟩
   case rest=>
    clear x4 HLI HLE
    obtain⟨Av,kv,cv,rfl,HLI⟩:=hcut
    obtain⟨wa,hwa⟩:=nm_ (wc)
    rw[hwa] at HLI⊢
    clear hwa wc
    have HLE:=hd_ (show kv≤5 from by rw[←HLI.out.1];exact HW2.out.2.2.2.2)
    have x5:=HX5.out wa HLI.out.2.bel
    go_upto_if 84 with fail
    go_cut [3] (fun s3 wx=>∃(Av:Option Addr) (kv cv:Nat),s3=.slice Av kv cv∧Hid (K3.length=kv∧LInv ndE 43 (fun g=>W0.heap.size≤g) W0 (.slice Av kv cv) K3 wx))
    case first=>as_aux_lemma=>
     by_cases hn0:0<L5
     ·have HTK:=hd_ (show K3=K2++[extF ⟨koid 3,kcrit 3,b3'⟩] from by have h:=HW3.out.2.2.2.1;rw[decide_eq_true hn0,if_pos rfl] at h;exact h)
      have hn1:(L5:Int)>0:=by omega
      have hn2:(0:Int)< (L5:Int):=by omega
      go_wp2_with fail
      (try rw[decide_eq_true hn0])
      clear hn0
      (try clear hn1)
      (try clear hn2)
      clear x5
      go_loopg [7,8] (L5+1) (fun gk sa sb wx=>∃(i:Nat) (Aw:Option Addr) (cw:Nat),sa=.slice Aw i cw∧sb=.int .i64 i∧i≤L5∧L5 - i<gk∧Hid (LInv ndE 43 (fun g=>wa.heap.size≤g) wa (.slice Aw i cw) ((xs5.take i).map princZ) wx))
      case atStart=>exact⟨0,none,0,rfl,rfl,by omega,by omega,hd_ LInv.start⟩
      case round=>
       obtain⟨i,Aw,cw,rfl,rfl,hi,hgk,HI⟩:=hrel
       have hlk:((xs5.take i).map princZ).length=i:=by rw[List.length_map,List.length_take];have:=HL5.out.1;omega
       have hbw:=below_then HB.out.1 (below_then HLI.out.2.bel HI.out.bel (lr_ _)) (lr_ _)
       have x5:=HX5.out wr (below_then HLI.out.2.bel HI.out.bel (lr_ _))
       by_cases hlt:i<L5
       ·have hltz:(i:Int)< (L5:Int):=by omega
        obtain⟨gk',rfl⟩: ∃g',gk=g'+1:=⟨gk - 1,by omega⟩
        have HN:=hd_ (ai_ (show i+1≤L5 from hlt) (show L5 - (i+1)<gk' by omega))
        have hix:i<xs5.length:=by rw[HL5.out.1];exact hlt
        obtain⟨g,off,cs,rfl,hg,hcell,hold⟩:=(HL5.out.2.1.below hbw).at i hix
        have hnx:(xs5.take i).map princZ++[princZ xs5[i]]=(xs5.take (i+1)).map princZ:=by rw[List.take_succ_eq_append_getElem hix,List.map_append,List.map_cons,List.map_nil]
        have hok:=HP.out.2.1 xs5[i] (List.getElem_mem hix)
        obtain⟨y,hy⟩:=nm_ (xs5[i])
        rw[hy] at hold hnx hok
        clear hy
        obtain⟨e0',e1',rfl,hp⟩:=hold
        rw[show princZ y=princN y from by unfold princZ;rw[if_pos hok]] at hnx
        have hC:=rprincNode_any _ y _ _ wr hp (by have:=((rightP_iff y).1 hok).2.2.1;omega)
        obtain⟨a,ca,rfl,rfl,_⟩:=hp
        have e0:=hcell 0 _ rfl
        have e1:=hcell 1 _ rfl
        rw[show prE.sz=2 from rfl] at e0 e1
        simp only[Nat.add_zero] at e0 e1
        obtain⟨nd,hnd⟩:=nm_ (princN y)
        rw[hnd] at hC hnx
        have HC:=hd_ hC
        have HY:=hd_ (ai_ hlk hnx)
        have i1:(0:Int)≤(i:Int):=by omega
        clear hC hlk hnx hok hnd hcell hgk hbw
        go_wp2_with fail
        refine HC.out.mono ?_
        rintro e w3 ⟨hb3,t3,A3,l3,k3,K3',m3,j3,rfl,hd3⟩
        obtain⟨A7',c7,w7,hrun,hL7⟩:=HI.out.node (fun g h=>h) hb3 hd3 (by rw[HY.out.1];have:=HL5.out.2.2.2.2;omega)
        rw[HY.out.1] at hrun hL7
        rw[HY.out.2] at hL7
        have H7:=hd_ hL7
        clear hL7 hb3 hd3 HC HI e0 e1 x5
        have hib:(i:Int)+1≤9223372036854775807:=by have h1:=HN.out.1;have h2:=HL5.out.2.2.2.2;omega
        go_wp2_with (at_builtin;refine wpl_append rfl (.tmp 92) (.tmp 99) 41 rfl _ _ _ rfl rfl hrun ?_)
        clear hrun
        go_wp2
        go_roundg gk'
        case measure=>omega
        case rel=>exact⟨i+1,A7',c7,rfl,by go_num,HN.out.1,HN.out.2,H7⟩
       ·obtain rfl:L5=i:=by omega
        have hltz: ¬(L5:Int)< (L5:Int):=by omega
        have htk:(xs5.take L5).map princZ=xs5.map princZ:=by rw[List.take_of_length_le (Nat.le_of_eq HL5.out.1)]
        have hLI:=HI.out
        rw[htk] at hLI hlk
        obtain⟨Ae,ce,ee,hce1,hce2,hLe⟩:=hLI.row.lst (fun g h=>h)
        rw[hlk] at ee hce1
        simp only[Value.slice.injEq] at ee
        obtain⟨rfl,_,rfl⟩:=ee
        have HK:=hd_ (ai_ hLI.bel (ai_ hlk (ai_ hce1 (ai_ hce2 (hLe.mono (S':=fun _=>True) (fun _ _=>trivial))))))
        clear hce1 hce2 hLe hLI hlk htk HI hbw hgk hlt hi
        have hkn:=rknown_any 3 wr (by omega)
        rw[show((3:Nat):Int)=3 from rfl] at hkn
        have HKN:=hd_ hkn
        clear hkn
        go_wp2_with fail
        refine HKN.out.mono ?_
        rintro e y1 ⟨gk1,rfl,hg1,hge1,hby1⟩
        have HQ:=hd_ (rseq_any (fun _=>True) 48 Aw L5 cw _ y1 (by omega) HK.out.2.1 HK.out.2.2.1 HK.out.2.2.2.1 (HK.out.2.2.2.2.below hby1))
        have HG:=hd_ (ai_ hg1 hby1)
        clear hg1 hge1 hby1 HKN
        go_wp2_with fail
        refine HQ.out.mono ?_
        rintro e y2 ⟨hby2,u1,U1,u2,u3,U2,u4,u5,rfl,hud⟩
        have hB2:=below_then HK.out.1 (below_then HG.out.2 hby2 (lr_ _)) (lr_ _)
        have HQ2:=hd_ (rbytes_any _ _ b3' _ _ _ y2 hud HW3.out.2.1 (noT_map princZ _ (by decide) noT_princZ) HW3.out.1 (HB.out.2.2.2.below (below_then HB.out.1 (below_then HLI.out.2.bel hB2 (lr_ _)) (lr_ _))))
        have HG2:=hd_ (ai_ (HG.out.1.below hby2) hB2)
        clear hby2 hud hB2 HQ
        go_wp2_with fail
        refine HQ2.out.mono ?_
        rintro e y3 ⟨hby3,U3,u6,rfl,hy3,hc3,hm3,_⟩
        have hx1:=rext_any (some ⟨gk1,0,none⟩) 4 4 U3 b3'.length u6 false (koid 3) b3' y3 (koid_obj (by omega)) (HG2.out.1.below hby3) (lr_ _) (by unfold maxLen;omega) hy3 hc3 hm3 (by have:=HW3.out.2.2.1;omega)
        have HQ3:=hd_ hx1
        have HG3:=hd_ (below_then HG2.out.2 hby3 (lr_ _))
        obtain⟨lb,hlb⟩:=nm_ (b3'.length)
        rw[hlb] at HQ3⊢
        clear hby3 hy3 hc3 hm3 hx1 HQ2 HG HG2 hlb
        go_wp2_with fail
        refine HQ3.out.mono ?_
        rintro e y4 ⟨hby4,u7,U4,u8,u9,U5,u10,u11,rfl,hxd⟩
        obtain⟨A7',c7,w7,hrun,hL7⟩:=HLI.out.2.node (fun g h=>h) (below_then HG3.out hby4 (lr_ _)) (NdC.mono (fun g hg=>Nat.le_trans HG3.out.size hg) _ _ _ _ hxd) (by rw[HLI.out.1];exact Nat.le_trans HLE.out (by omega))
        rw[HLI.out.1] at hrun hL7
        have H7:=hd_ hL7
        clear hL7 hby4 hxd HQ3 HG3
        go_wp2_with (at_builtin;refine wpl_append rfl (.tmp 101) (.tmp 107) 41 rfl _ _ _ rfl rfl hrun ?_)
        clear hrun
        have hfin:=hd_ (show K3.length=kv+1∧LInv ndE 43 (fun g=>W0.heap.size≤g) W0 (.slice A7' (kv+1) c7) K3 w7 from by rw[HTK.out];exact⟨by rw[List.length_append,HLI.out.1];rfl,H7.out⟩)
        clear H7
        go_wp2_with fail
        go_meet
        exact⟨_,_,_,rfl,hfin⟩
     ·have HTK:=hd_ (show K3=K2 from by have h:=HW3.out.2.2.2.1;rw[decide_eq_false hn0,if_neg (by decide),List.append_nil] at h;exact h)
      obtain rfl:L5=0:=by omega
      clear hn0
      have hfin:=hd_ (show K3.length=kv∧LInv ndE 43 (fun g=>W0.heap.size≤g) W0 (.slice Av kv cv) K3 _ from by rw[HTK.out];exact HLI.out)
      go_wp2_with fail
      go_meet
      exact⟨_,_,_,rfl,hfin⟩
    case rest=>
     clear x5 HLI HLE
     obtain⟨Av,kv,cv,rfl,HLI⟩:=hcut
     obtain⟨wa,hwa⟩:=nm_ (wc)
     rw[hwa] at HLI⊢
     clear hwa wc
     have HLE:=hd_ (show kv≤5 from by rw[←HLI.out.1];exact HW3.out.2.2.2.2)
     have x6:=HX6.out wa HLI.out.2.bel
     have x7:=HX7.out wa HLI.out.2.bel
     go_upto_region 25 with fail
     go_cut [118] (fun s118 wx=>s118=.bool (decide (0<L6) || decide (0<L7))∧wx=wa)
     case first=>
      by_cases h6:0<L6
      ·have h6z:(L6:Int)>0:=by omega
       have h6y:(0:Int)< (L6:Int):=by omega
       have hd:=hd_ (decide_eq_true h6)
       go_wp2_with fail
       go_meet
       exact⟨by rw[hd.out];rfl,rfl⟩
      ·obtain rfl:L6=0:=by omega
       by_cases h7:0<L7
       ·have h7z:(L7:Int)>0:=by omega
        have h7y:(0:Int)< (L7:Int):=by omega
        have hd:=hd_ (decide_eq_true h7)
        go_wp2_with fail
        go_meet
        exact⟨by rw[hd.out];rfl,rfl⟩
       ·obtain rfl:L7=0:=by omega
        go_wp2_with fail
        go_meet
        exact⟨rfl,rfl⟩
     case rest=>
      obtain⟨rfl,hwc⟩:=hcut
      rw[hwc]
      clear hwc wc
      obtain⟨any,hany⟩:=nm_ ((decide (0<L6) || decide (0<L7)))
      have HAny:=hd_ (ai_ HW4.out.2.2.2.1 hany)
      rw[hany]
      clear hany
      go_upto_if 118 with fail
      go_cut [3] (fun s3 wx=>∃(Av:Option Addr) (kv cv:Nat),s3=.slice Av kv cv∧Hid (K4.length=kv∧LInv ndE 43 (fun g=>W0.heap.size≤g) W0 (.slice Av kv cv) K4 wx))
      case first=>as_aux_lemma=>
       cases any
       ·have HTK:=hd_ (show K4=K3 from by have h:=HAny.out.1;rw[HAny.out.2,if_neg (by decide),List.append_nil] at h;exact h)
        have hfin:=hd_ (show K4.length=kv∧LInv ndE 43 (fun g=>W0.heap.size≤g) W0 (.slice Av kv cv) K4 _ from by rw[HTK.out];exact HLI.out)
        go_wp2_with fail
        go_meet
        exact⟨_,_,_,rfl,hfin⟩
       ·have HTK:=hd_ (show K4=K3++[extF ⟨koid 4,kcrit 4,b4'⟩] from by have h:=HAny.out.1;rw[HAny.out.2,if_pos rfl] at h;exact h)
        go_upto_if 122 with fail
        go_cut [9] (fun s9 wx=>∃(A9:Option Addr) (k9 c9:Nat),s9=.slice A9 k9 c9∧Hid ((onlyL (decide (0<L6)) (.mk 160 [] (xs6.map nameZ))).length=k9∧LInv ndE 43 (fun g=>wa.heap.size≤g) wa (.slice A9 k9 c9) (onlyL (decide (0<L6)) (.mk 160 [] (xs6.map nameZ))) wx))
        case first=>
         by_cases hp:0<L6
         ·have HD:=hd_ (decide_eq_true hp)
          have hp1:(L6:Int)>0:=by omega
          have hp2:(0:Int)< (L6:Int):=by omega
          clear hp
          have HS:=hd_ (rspace_any B A6 L6 k6 xs6 wa HL6.out.1 (HL6.out.2.1.below (below_then HB.out.1 HLI.out.2.bel (lr_ _))) HL6.out.2.2.1 HL6.out.2.2.2.1 HL6.out.2.2.2.2 HP.out.2.2.1)
          go_wp2_with fail
          refine HS.out.mono ?_
          rintro e y1 ⟨hby1,U1,u1,rfl,hu1,hu2,hu3⟩
          obtain⟨lm,hlm⟩:=nm_ ((xs6.map nameZ).length)
          rw[hlm] at hu1⊢
          have HQ:=hd_ (rseq_any _ 160 U1 lm u1 _ y1 (by omega) hlm hu1 hu2 hu3)
          have HB1:=hd_ hby1
          clear hu1 hu2 hu3 hby1 HS hlm
          go_wp2_with fail
          refine HQ.out.mono ?_
          rintro e y2 ⟨hby2,t3,A3,l3,k3,K3',m3,j3,rfl,hd3⟩
          obtain⟨A7',c7,w7,hrun,hL7⟩:=(LInv.start (E:=ndE) (e:=43) (Y:=fun g=>wa.heap.size≤g) (W0:=wa)).node (fun g h=>h) (below_then HB1.out hby2 (lr_ _)) hd3 (by simp)
          have hfin:=hd_ (show(onlyL true (.mk 160 [] (xs6.map nameZ))).length=1∧LInv ndE 43 (fun g=>wa.heap.size≤g) wa (.slice A7' 1 c7) (onlyL true (.mk 160 [] (xs6.map nameZ))) w7 from⟨rfl,hL7⟩)
          have hrun:(Builtin.append_ #[41,41] 41 #[.slice none 0 0,.slice (some ⟨y2.heap.size,0,none⟩) 1 1]).run Tryz.prog (y2.alloc (.cells #[.int .u8 t3,.slice A3 l3 k3,.slice K3' m3 j3] 43))=.ok (.slice A7' 1 c7) w7:=hrun
          clear hL7 hd3 hby2 HB1 HQ
          go_wp2_with (at_builtin;refine wpl_append rfl (.tmp 123) (.tmp 128) 41 rfl _ _ _ rfl rfl hrun ?_)
          clear hrun
          go_wp2_with fail
          go_meet
          exact⟨_,_,_,rfl,by rw[HD.out];exact hfin⟩
         ·have HD:=hd_ (decide_eq_false hp)
          have hfin:=hd_ (show(onlyL false (.mk 160 [] (xs6.map nameZ))).length=0∧LInv ndE 43 (fun g=>wa.heap.size≤g) wa (.slice none 0 0) (onlyL false (.mk 160 [] (xs6.map nameZ))) wa from⟨rfl,LInv.start⟩)
          obtain rfl:L6=0:=by omega
          go_wp2_with fail
          go_meet
          exact⟨_,_,_,rfl,by rw[HD.out];exact hfin⟩
        case rest=>
         obtain⟨A9,k9,c9,rfl,H9⟩:=hcut
         obtain⟨wb,hwb⟩:=nm_ (wc)
         rw[hwb] at H9⊢
         clear hwb wc x6 x7
         have x7:=HX7.out wb (below_then HLI.out.2.bel H9.out.2.bel (lr_ _))
         obtain⟨N6,hN6⟩:=nm_ (onlyL (decide (0<L6)) (.mk 160 [] (xs6.map nameZ)))
         rw[hN6] at H9
         have HN6:=hd_ (ai_ hN6 (show N6.length≤1 by rw[←hN6];exact onlyL_len _ _))
         clear hN6
         go_upto_if 133 with fail
         go_cut [9] (fun s9 wx=>∃(A9:Option Addr) (k9 c9:Nat),s9=.slice A9 k9 c9∧Hid ((N6++onlyL (decide (0<L7)) (.mk 161 [] (xs7.map nameZ))).length=k9∧LInv ndE 43 (fun g=>wa.heap.size≤g) wa (.slice A9 k9 c9) (N6++onlyL (decide (0<L7)) (.mk 161 [] (xs7.map nameZ))) wx))
         case first=>
          by_cases hp:0<L7
          ·have HD:=hd_ (decide_eq_true hp)
           have hp1:(L7:Int)>0:=by omega
           have hp2:(0:Int)< (L7:Int):=by omega
           clear hp
           have HS:=hd_ (rspace_any B A7 L7 k7 xs7 wb HL7.out.1 (HL7.out.2.1.below (below_then HB.out.1 (below_then HLI.out.2.bel H9.out.2.bel (lr_ _)) (lr_ _))) HL7.out.2.2.1 HL7.out.2.2.2.1 HL7.out.2.2.2.2 HP.out.2.2.2.1)
           go_wp2_with fail
           refine HS.out.mono ?_
           rintro e y1 ⟨hby1,U1,u1,rfl,hu1,hu2,hu3⟩
           obtain⟨lm,hlm⟩:=nm_ ((xs7.map nameZ).length)
           rw[hlm] at hu1⊢
           have HQ:=hd_ (rseq_any _ 161 U1 lm u1 _ y1 (by omega) hlm hu1 hu2 hu3)
           have HB1:=hd_ hby1
           clear hu1 hu2 hu3 hby1 HS hlm
           go_wp2_with fail
           refine HQ.out.mono ?_
           rintro e y2 ⟨hby2,t3,A3,l3,k3,K3',m3,j3,rfl,hd3⟩
           obtain⟨A7',c7,w7,hrun,hL7⟩:=H9.out.2.node (fun g h=>h) (below_then HB1.out hby2 (lr_ _)) hd3 (by have:=HN6.out.2;omega)
           rw[H9.out.1] at hrun hL7
           have hfin:=hd_ (show(N6++onlyL true (.mk 161 [] (xs7.map nameZ))).length=k9+1∧LInv ndE 43 (fun g=>wa.heap.size≤g) wa (.slice A7' (k9+1) c7) (N6++onlyL true (.mk 161 [] (xs7.map nameZ))) w7 from⟨by rw[List.length_append,H9.out.1];rfl,hL7⟩)
           clear hL7 hd3 hby2 HB1 HQ
           go_wp2_with (at_builtin;refine wpl_append rfl (.tmp 134) (.tmp 139) 41 rfl _ _ _ rfl rfl hrun ?_)
           clear hrun
           go_wp2_with fail
           go_meet
           exact⟨_,_,_,rfl,by rw[HD.out];exact hfin⟩
          ·have HD:=hd_ (decide_eq_false hp)
           have hfin:=hd_ (show(N6++onlyL false (.mk 161 [] (xs7.map nameZ))).length=k9∧LInv ndE 43 (fun g=>wa.heap.size≤g) wa (.slice A9 k9 c9) (N6++onlyL false (.mk 161 [] (xs7.map nameZ))) wb from by rw[show onlyL false (.mk 161 [] (xs7.map nameZ))=([]:List Nd) from rfl,List.append_nil];exact H9.out)
           obtain rfl:L7=0:=by omega
           go_wp2_with fail
           go_meet
           exact⟨_,_,_,rfl,by rw[HD.out];exact hfin⟩
         case rest=>
          clear H9 x7
          obtain⟨A9,k9,c9,rfl,H9⟩:=hcut
          obtain⟨wk,hwk⟩:=nm_ (wc)
          rw[hwk] at H9⊢
          clear hwk wc
          rw[←HN6.out.1] at H9
          obtain⟨Ae,ce,ee,hce1,hce2,hLe⟩:=H9.out.2.row.lst (fun g h=>h)
          rw[H9.out.1] at ee hce1
          simp only[Value.slice.injEq] at ee
          obtain⟨rfl,_,rfl⟩:=ee
          have HK:=hd_ (ai_ H9.out.2.bel (ai_ H9.out.1 (ai_ hce1 (ai_ hce2 (hLe.mono (S':=fun _=>True) (fun _ _=>trivial))))))
          clear hce1 hce2 hLe
          have hkn:=rknown_any 4 wk (by omega)
          rw[show((4:Nat):Int)=4 from rfl] at hkn
          have HKN:=hd_ hkn
          clear hkn
          go_wp2_with fail
          refine HKN.out.mono ?_
          rintro e y1 ⟨gk1,rfl,hg1,hge1,hby1⟩
          have HQ:=hd_ (rseq_any (fun _=>True) 48 A9 k9 c9 _ y1 (by omega) HK.out.2.1 HK.out.2.2.1 HK.out.2.2.2.1 (HK.out.2.2.2.2.below hby1))
          have HG:=hd_ (ai_ hg1 hby1)
          clear hg1 hge1 hby1 HKN
          go_wp2_with fail
          refine HQ.out.mono ?_
          rintro e y2 ⟨hby2,u1,U1,u2,u3,U2,u4,u5,rfl,hud⟩
          have hB2:=below_then HK.out.1 (below_then HG.out.2 hby2 (lr_ _)) (lr_ _)
          have HQ2:=hd_ (rbytes_any _ _ b4' _ _ _ y2 hud HW4.out.2.1 (noT_two (by decide) (noT_map nameZ _ (by decide) noT_nameZ) (noT_map nameZ _ (by decide) noT_nameZ)) HW4.out.1 (HB.out.2.2.2.below (below_then HB.out.1 (below_then HLI.out.2.bel hB2 (lr_ _)) (lr_ _))))
          have HG2:=hd_ (ai_ (HG.out.1.below hby2) hB2)
          clear hby2 hud hB2 HQ
          go_wp2_with fail
          refine HQ2.out.mono ?_
          rintro e y3 ⟨hby3,U3,u6,rfl,hy3,hc3,hm3,_⟩
          have hx1:=rext_any (some ⟨gk1,0,none⟩) 4 4 U3 b4'.length u6 true (koid 4) b4' y3 (koid_obj (by omega)) (HG2.out.1.below hby3) (lr_ _) (by unfold maxLen;omega) hy3 hc3 hm3 (by have:=HW4.out.2.2.1;omega)
          have HQ3:=hd_ hx1
          have HG3:=hd_ (below_then HG2.out.2 hby3 (lr_ _))
          obtain⟨lb,hlb⟩:=nm_ (b4'.length)
          rw[hlb] at HQ3⊢
          clear hby3 hy3 hc3 hm3 hx1 HQ2 HG HG2 hlb
          go_wp2_with fail
          refine HQ3.out.mono ?_
          rintro e y4 ⟨hby4,u7,U4,u8,u9,U5,u10,u11,rfl,hxd⟩
          obtain⟨A7',c7,w7,hrun,hL7⟩:=HLI.out.2.node (fun g h=>h) (below_then HG3.out hby4 (lr_ _)) (NdC.mono (fun g hg=>Nat.le_trans HG3.out.size hg) _ _ _ _ hxd) (by rw[HLI.out.1];exact Nat.le_trans HLE.out (by omega))
          rw[HLI.out.1] at hrun hL7
          have H7:=hd_ hL7
          clear hL7 hby4 hxd HQ3 HG3
          go_wp2_with (at_builtin;refine wpl_append rfl (.tmp 141) (.tmp 147) 41 rfl _ _ _ rfl rfl hrun ?_)
          clear hrun
          have hfin:=hd_ (show K4.length=kv+1∧LInv ndE 43 (fun g=>W0.heap.size≤g) W0 (.slice A7' (kv+1) c7) K4 w7 from by rw[HTK.out];exact⟨by rw[List.length_append,HLI.out.1];rfl,H7.out⟩)
          clear H7
          go_wp2_with fail
          go_meet
          exact⟨_,_,_,rfl,hfin⟩
      case rest=>
       clear x6 x7 HLI HLE HAny
       obtain⟨Av,kv,cv,rfl,HLI⟩:=hcut
       obtain⟨wa2,hwa⟩:=nm_ (wc)
       rw[hwa] at HLI⊢
       clear hwa wc
       have HLE:=hd_ (show kv≤5 from by rw[←HLI.out.1];exact HW4.out.2.2.2.2)
       have hkl: ∀i,i≤L8→(K4++(xs8.take i).map extF).length=kv+i:=fun i hi=>by rw[List.length_append,HLI.out.1,List.length_map,List.length_take];have:=HL8.out.1;omega
       have HKL:=hd_ hkl
       clear hkl
       go_wp2_with fail
       go_loopg [3,10] (L8+1) (fun gk sa sb wx=>∃(i:Nat) (Aw:Option Addr) (cw:Nat),sa=.slice Aw (kv+i) cw∧sb=.int .i64 i∧i≤L8∧L8 - i<gk∧Hid (LInv ndE 43 (fun g=>W0.heap.size≤g) W0 (.slice Aw (kv+i) cw) (K4++(xs8.take i).map extF) wx))
       case atStart=>exact⟨0,Av,cv,rfl,rfl,by omega,by omega,hd_ (by rw[List.take_zero,List.map_nil,List.append_nil];exact HLI.out.2)⟩
       case round=>
        obtain⟨i,Aw,cw,rfl,rfl,hi,hgk,HI⟩:=hrel
        have hbw:=below_then HB.out.1 HI.out.bel (lr_ _)
        have x8:=HX8.out wr HI.out.bel
        by_cases hlt:i<L8
        ·have hltz:(i:Int)< (L8:Int):=by omega
         obtain⟨gk',rfl⟩: ∃g',gk=g'+1:=⟨gk - 1,by omega⟩
         have HN:=hd_ (ai_ (show i+1≤L8 from hlt) (show L8 - (i+1)<gk' by omega))
         have hix:i<xs8.length:=by rw[HL8.out.1];exact hlt
         obtain⟨g,off,cs,rfl,hg,hcell,hold⟩:=(HL8.out.2.1.below hbw).at i hix
         have hnx:(K4++(xs8.take i).map extF)++[extF xs8[i]]=K4++(xs8.take (i+1)).map extF:=by rw[List.take_succ_eq_append_getElem hix,List.map_append,List.map_cons,List.map_nil,List.append_assoc]
         have hok:=HP.out.2.2.2.2 xs8[i] (List.getElem_mem hix)
         obtain⟨y,hy⟩:=nm_ (xs8[i])
         rw[hy] at hold hnx hok
         clear hy
         obtain⟨e0',e1',e2',rfl,⟨a,la,ca,rfl,h1,h2,h3,_⟩,rfl,⟨b,lb,cb,rfl,m1,m2,m3,_⟩⟩:=hold
         have e0:=hcell 0 _ rfl
         have e1:=hcell 1 _ rfl
         have e2:=hcell 2 _ rfl
         rw[show odE.sz=3 from rfl] at e0 e1 e2
         simp only[Nat.add_zero] at e0
         have hC:=fun W (hW:Below wr.heap.size wr W)=>rext_any a la ca b lb cb y.crit y.oid y.body W hok.1 (h3.below hW) h1 h2 (m3.below hW) m1 m2 (by have h1:=m3.1;have h2:=hok.2;omega)
         rw[show(⟨y.oid,y.crit,y.body⟩:Od)=y from rfl] at hC
         obtain⟨nd,hnd⟩:=nm_ (extF y)
         rw[hnd] at hC hnx
         obtain⟨cr,hcr⟩:=nm_ (y.crit)
         rw[hcr] at hC e1
         have HC:=hd_ hC
         have HY:=hd_ hnx
         have i1:(0:Int)≤(i:Int):=by omega
         have HE7a:=hd_ (fun W (hW:Below W0.heap.size W0 W)=>od_cells HL8.out.2.1 (below_then HB.out.1 hW (lr_ _)) hbw i hix e0 e1 e2)
         have HXX:=hd_ (fun W (hW:Below wr.heap.size wr W)=>(⟨cell_on hW x8,cell_on hW e0,cell_on hW e1,cell_on hW e2⟩:W.cell? ⟨w.heap.size,8,none⟩=some (.slice (some ⟨g,off,none⟩) L8 k8)∧W.cell? ⟨g,off+i*3,none⟩=some (.slice a la ca)∧W.cell? ⟨g,off+i*3+1,none⟩=some (.bool cr)∧W.cell? ⟨g,off+i*3+2,none⟩=some (.slice b lb cb)))
         clear hC hnx hok hnd hcr hcell hgk hbw h1 h2 h3 m1 m2 m3
         go_wp2_with fail
         try dsimp only
         refine wp_region_noPanic ?_
         refine wp_region_held_drew (S:=fun wx:World=>wx.cell? ⟨w.heap.size,8,none⟩=some (.slice (some ⟨g,off,none⟩) L8 k8)∧wx.cell? ⟨g,off+i*3,none⟩=some (.slice a la ca)∧wx.cell? ⟨g,off+i*3+1,none⟩=some (.bool cr)∧wx.cell? ⟨g,off+i*3+2,none⟩=some (.slice b lb cb)) mixed ⟨x8,e0,e1,e2⟩ (fun hHeld=>?_)
         have hbd:=below_drew wr
         obtain⟨wd,hwd⟩:=nm_ (wr.drew)
         rw[hwd] at hHeld hbd⊢
         clear hwd
         refine tk_ (i:=0) (z:=?_)
         refine tk_ (i:=1) (z:=?_)
         refine tk_ (i:=2) (z:=?_)
         refine tk_ (i:=3) (z:=?_)
         refine tk_ (i:=4) (z:=?_)
         refine tk_ (i:=5) (z:=?_)
         refine tk_ (i:=6) (z:=?_)
         refine tk_ (i:=7) (z:=?_)
         refine tk_ (i:=8) (z:=?_)
         refine tk_ (i:=9) (z:=?_)
         refine tk_ (i:=10) (z:=?_)
         refine tk_ (i:=11) (z:=?_)
         refine tk_ (i:=12) (z:=?_)
         refine tk_ (i:=13) (z:=?_)
         refine tk_ (i:=14) (z:=?_)
         refine tk_ (i:=15) (z:=?_)
         refine tk_ (i:=16) (z:=?_)
         refine tk_ (i:=17) (z:=?_)
         refine tk_ (i:=18) (z:=?_)
         refine on_ (i:=19) (z:=fun KK hKK=>?_)
         go_simp
         refine(HC.out _ hbd).mono ?_
         rintro e y4 ⟨hby4,u7,U4,u8,u9,U5,u10,u11,rfl,hxd⟩
         dsimp only
         have hxd2:=NdC.mono (B':=fun g=>wr.heap.size≤g) (fun g hg=>Nat.le_trans hbd.size hg) _ _ _ _ hxd
         have hbb:=below_then hbd hby4 (lr_ _)
         refine hKK.out _ _ (HXX.out _ hbb) (fun hHeld=>?_)
         clear hKK KK
         try simp only[Act.put,qa_,qb_,qc_]
         obtain⟨A7',c7,w7,hrun,hL7⟩:=HI.out.node (fun g h=>h) hbb hxd2 (by rw[HKL.out i hi];have:=HLE.out;have:=HL8.out.2.2.2.2;omega)
         rw[HKL.out i hi] at hrun hL7
         rw[HY.out] at hL7
         have H7:=hd_ hL7
         have hB7:=HXX.out
         refine on_ (i:=20) (z:=fun KK hKK=>?_)
         go_simp
         have hbb5:=below_then hbb (below_new y4 (.cells #[.int .u8 u7,.slice U4 u8 u9,.slice U5 u10 u11] 43)) (lr_ _)
         refine hKK.out _ _ (HXX.out _ hbb5) (fun hHeld=>?_)
         clear hKK KK
         try simp only[Act.put,qa_,qb_,qc_]
         have hk7:w7.cell? ⟨w.heap.size,8,none⟩=some (.slice (some ⟨g,off,none⟩) L8 k8)∧w7.cell? ⟨g,off+i*3,none⟩=some (.slice a la ca)∧w7.cell? ⟨g,off+i*3+1,none⟩=some (.bool cr)∧w7.cell? ⟨g,off+i*3+2,none⟩=some (.slice b lb cb):=⟨HX8.out _ hL7.bel,HE7a.out _ hL7.bel⟩
         refine on_ (i:=21) (z:=fun KK hKK=>?_)
         refine step_run rfl (.tmp 156) (.tmp 176) 41 rfl _ _ _ (by first |rfl |simp[Act.eval,Act.put]) (by first |rfl |simp[Act.eval,Act.put]) hrun (hKK.out _ _ hk7 (fun hHeld=>?_))
         clear hKK KK
         try simp only[Act.put,qa_,qb_,qc_]
         refine tk_ (i:=22) (z:=?_)
         refine wpAnyH_done (by kernel_rfl) ?_ _
         refine NoPanic.normal ?_
         clear hHeld hL7 hbb5 hbb hxd hxd2 hby4 hrun hk7 hB7 x8 e0 e1 e2 HI
         have hib:(i:Int)+1≤9223372036854775807:=by have h1:=HN.out.1;have h2:=HL8.out.2.2.2.2;omega
         go_wp2_with fail
         go_roundg gk'
         case measure=>omega
         case rel=>exact⟨i+1,A7',c7,by rw[Nat.add_assoc],by go_num,HN.out.1,HN.out.2,H7⟩
        ·obtain rfl:L8=i:=by omega
         have hltz: ¬(L8:Int)< (L8:Int):=by omega
         have htk:K4++(xs8.take L8).map extF=K4++xs8.map extF:=by rw[List.take_of_length_le (Nat.le_of_eq HL8.out.1)]
         have hln:=HKL.out L8 (lr_ _)
         have hLI:=HI.out
         rw[htk] at hLI hln
         obtain⟨Ae,ce,ee,hce1,hce2,hLe⟩:=hLI.row.lst (fun g h=>h)
         rw[hln] at ee hce1
         simp only[Value.slice.injEq] at ee
         obtain⟨rfl,_,rfl⟩:=ee
         have hcall:=rseq_any (fun g=>W0.heap.size≤g) 48 Aw (kv+L8) cw _ wr (by omega) hln hce1 hce2 hLe
         have HC:=hd_ hcall
         have HW:=hd_ (ai_ hbw ((hLI.bel.block _ (by rw[HB.out.2.2.1];omega)).trans HB.out.2.1))
         clear hcall hLe hce1 hce2 hLI hln htk HI hbw hgk
         go_wp2_with fail
         refine HC.out.mono ?_
         rintro e w2 ⟨hb2,t,A5',la5,ca5,K5,lk5,ck5,rfl,hn⟩
         have hz:=HB.out.2.2.1
         have p2:=(hb2.block _ (Array.getElem?_eq_some_iff.1 HW.out.2).1).trans HW.out.2
         obtain⟨r0,r1,r2,hB⟩:=res3 (y0:=.int .u8 t) (y1:=.slice A5' la5 ca5) (y2:=.slice K5 lk5 ck5) (Nat.le_succ _) (below_then HW.out.1 hb2 (lr_ _)) p2
         have hn2:=res3_nd (b:=w.heap.size+1) (y0:=.int .u8 t) (y1:=.slice A5' la5 ca5) (y2:=.slice K5 lk5 ck5) (fun g hg=>by omega) hn
         have f0:=fh_ p2 0
         have f1:=fh_ p2 1
         have f2:=fh_ p2 2
         have s0:=(ch_ p2 0).trans rfl
         have s1:=(ch_ p2 1).trans rfl
         have s2:=(ch_ p2 2).trans rfl
         have HE:=hd_ (ai_ hB (NdC.mono (B':=fun g=>w.heap.size≤g) (fun g hg=>by omega) _ _ _ _ hn2))
         clear hB hn hn2 p2 hb2 HC HW hz
         go_wp2_with fail
         refine bodyPost_ret (v:=.agg #[.int .u8 t,.slice A5' la5 ca5,.slice K5 lk5 ck5]) ?_ rfl ⟨HE.out.1,_,_,_,_,_,_,_,rfl,HE.out.2⟩
         simp[results,Tryz.results37,go_sem,r0,r1,r2]
end Go.Proofs.YtkjkhoglkpepiaaGreatDoor.nmc
