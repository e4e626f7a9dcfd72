/- The certificate of the head's bytes: the program's Get. The head of the statements of certificates. -/
import Derived.Test.YtkjkhoglkpepiaaGreatDoorMh
set_option maxRecDepth 100000
set_option maxHeartbeats 16000000
set_option linter.unusedVariables false
set_option linter.unusedSimpArgs false
namespace Go.Proofs.YtkjkhoglkpepiaaGreatDoor.nmc
open Go.RowKit tlvc tlvd ndc txc txm intc intm vtc
theorem finz {w W:World}{bc0 bc1 bc2 bc3 bc4 bc5 bx0 bx1 bx2 bx3 bx4 bx5 bx6 bx7 bx8 bc6 c0 c1 c2 c3 c4 c5 x0 x1 x2 x3 x4 x5 x6 x7 x8 c6:Value}(hb:Below w.heap.size w W)(hx:W.heap[w.heap.size]? =some (.cells #[bc0,bc1,bc2,bc3,bc4,bc5,bx0,bx1,bx2,bx3,bx4,bx5,bx6,bx7,bx8,bc6] 32)): ∀W',setN W w.heap.size 0 [c0,c1,c2,c3,c4,c5,x0,x1,x2,x3,x4,x5,x6,x7,x8,c6]=W'→W'.heap[w.heap.size]? =some (.cells #[c0,c1,c2,c3,c4,c5,x0,x1,x2,x3,x4,x5,x6,x7,x8,c6] 32)∧Below w.heap.size w W'∧(∀g,g≠w.heap.size→W'.heap[g]? =W.heap[g]?)∧W'.heap.size=W.heap.size:=fun W' e=>by
 subst e
 refine⟨?_,setN_below (lr_ _) _ _ _ hb,fun g hg=>setN_other hg _ _ _,setN_size _ _ _ _⟩
 rw[setN_box _ _ _ _ hx]
 simp only[putN,qa_,qb_,qc_]
theorem ret14 {t:Array Value}{W:World}{g:Nat}{v0 v1 v2 v3 v4 v5 x0 x1 x2 x3 x4 x5 x6 x7 x8 v7:Value}{T:TypeId}{e:Value}(h2:t.getD 2 undef=.pointer (some ⟨g,0,none⟩))(h3:t.getD 3 undef=e)(hq:W.heap[g]? =some (.cells #[v0,v1,v2,v3,v4,v5,x0,x1,x2,x3,x4,x5,x6,x7,x8,v7] T)):Sem.run Tryz.prog (results Tryz.f9 t) W=.ok (.tuple #[.agg #[v0,v1,v2,v3,v4,v5,x0,x1,x2,x3,x4,x5,x6,x7,x8,v7],e]) W:=by
 rw[Array.getD_eq_getD_getElem?] at h2 h3
 obtain⟨⟨r0,r1,r2,r3,r4,r5⟩,⟨r6,r7,r8,r9,r10,r11,r12,r13,r14⟩,r15⟩:=box16 hq
 simp[results,Tryz.results9,go_sem,h2,h3,r0,r1,r2,r3,r4,r5,r6,r7,r8,r9,r10,r11,r12,r13,r14,r15]
theorem getHd_any (A:Option Addr)(n k:Nat)(xs:List Int)(w:World)(hx:Bys w A n xs)(hc:n≤k)(hm:k≤maxLen)(hT:Tabs w)(nx:Nat)(hR:readAllF xs=.ok ndH nx)(hP:putC ceH=.ok xs):
 Calls Tryz.prog 9 #[.slice A n k] w (COk w):=by
 obtain⟨W0,hW0⟩:=nm_ (w.alloc (.cells #[.int .i64 0,.slice none 0 0,.int .i64 0,.int .i64 0,.slice none 0 0,.int .i64 0,.bool false,.bool false,.int .i64 0,.int .u16 0,.slice none 0 0,.slice none 0 0,.slice none 0 0,.slice none 0 0,.slice none 0 0,.int .i64 0] 32))
 have hb0:Below w.heap.size w W0:=by rw[←hW0];exact below_new _ _
 have hz0:W0.heap.size=w.heap.size+1:=by rw[←hW0];simp
 have p0:W0.heap[w.heap.size]? =some (.cells #[.int .i64 0,.slice none 0 0,.int .i64 0,.int .i64 0,.slice none 0 0,.int .i64 0,.bool false,.bool false,.int .i64 0,.int .u16 0,.slice none 0 0,.slice none 0 0,.slice none 0 0,.slice none 0 0,.slice none 0 0,.int .i64 0] 32):=by rw[←hW0];exact heap_new_ _ _
 have HP:=hd_ (parse_any A n k xs W0 (hx.below hb0) hc hm (hT.below hb0))
 rw[hR] at HP
 have HZ:=hd_ (ai_ hb0 (ai_ hz0 (ai_ p0 (ai_ hT hx))))
 have HPC:=hd_ hP
 have hkk:=hc
 clear hb0 hz0 p0 hT hx hR hP
 go_enter Tryz.func9,Tryz.ntmps9
 go_wp2_with fail
 refine HP.out.mono ?_
 rintro e w1 ⟨hb1,v,rfl,c0,c1,c2,rfl,hn⟩
 obtain⟨t1,D1,d1,g1,K1,k1,u1,rfl,rfl,rfl⟩:=hn.shape
 obtain⟨W2,hW2⟩:=nm_ (w1.alloc (.cells #[.int .u8 t1,.slice D1 d1 g1,.slice K1 k1 u1] 43))
 have hb2:Below w1.heap.size w1 W2:=by rw[←hW2];exact below_new _ _
 have v2:W2.heap[w1.heap.size]? =some (.cells #[.int .u8 t1,.slice D1 d1 g1,.slice K1 k1 u1] 43):=by rw[←hW2];exact heap_new_ _ _
 obtain⟨_,s0,s1,s2⟩:=st3 v2
 have hbw:=below_then hb1 hb2 (lr_ _)
 have HC:=hd_ (toldHd_any _ _ _ _ W2 (NdC.below hb2 _ _ _ _ hn) (HZ.out.2.2.2.1.below (below_then HZ.out.1 hbw (lr_ _))))
 have HW:=hd_ hbw
 clear hb1 hb2 v2 hn hbw HP
 go_wp2_with fail
 clear s0 s1 s2
 refine HC.out.mono ?_
 rintro e w3 ⟨hb3,c0,c1,c2,c3,c4,c5,x0,x1,x2,x3,x4,x5,x6,x7,x8,c6,rfl,hcc⟩
 obtain⟨a0,E1,e1,h1,a2,a3,E4,e4,h4,a5,q0,q1,q2,q3,F4,m4,j4,F5,m5,j5,F6,m6,j6,F7,m7,j7,F8,m8,j8,a7,rfl,rfl,rfl,rfl,rfl,rfl,rfl,rfl,rfl,rfl,rfl,rfl,rfl,rfl,rfl,rfl⟩:=ceC_shape hcc
 obtain⟨W4,hW4⟩:=nm_ (w3.alloc (.cells #[.int .i64 a0,.slice E1 e1 h1,.int .i64 a2,.int .i64 a3,.slice E4 e4 h4,.int .i64 a5,.bool q0,.bool q1,.int .i64 q2,.int .u16 q3,.slice F4 m4 j4,.slice F5 m5 j5,.slice F6 m6 j6,.slice F7 m7 j7,.slice F8 m8 j8,.int .i64 a7] 32))
 have hb4:Below w3.heap.size w3 W4:=by rw[←hW4];exact below_new _ _
 have v4:W4.heap[w3.heap.size]? =some (.cells #[.int .i64 a0,.slice E1 e1 h1,.int .i64 a2,.int .i64 a3,.slice E4 e4 h4,.int .i64 a5,.bool q0,.bool q1,.int .i64 q2,.int .u16 q3,.slice F4 m4 j4,.slice F5 m5 j5,.slice F6 m6 j6,.slice F7 m7 j7,.slice F8 m8 j8,.int .i64 a7] 32):=by rw[←hW4];exact heap_new_ _ _
 obtain⟨⟨s0,s1,s2,s3,s4,s5⟩,⟨s6,s7,s8,s9,s10,s11,s12,s13,s14⟩,s15⟩:=box16 v4
 have hbw:=below_then (below_then HW.out hb3 (lr_ _)) hb4 (lr_ _)
 have hc4:=hcc.below hb4
 have hcall:=put_cert _ ceH _ _ _ _ _ _ _ _ _ _ _ _ _ _ _ _ W4 hc4 (HZ.out.2.2.2.1.below (below_then HZ.out.1 hbw (lr_ _)))
 rw[HPC.out] at hcall
 have HC2:=hd_ hcall
 have HW4:=hd_ (ai_ hbw (ai_ v4 hc4))
 have HF3:=hd_ (show W0.heap.size≤W2.heap.size from HW.out.size)
 clear hb3 hb4 v4 hcc hc4 hbw hcall HC HPC
 go_wp2_with fail
 clear s0 s1 s2 s3 s4 s5 s6 s7 s8 s9 s10 s11 s12 s13 s14 s15
 refine HC2.out.mono ?_
 rintro e w5 ⟨hb5,D,dc,rfl,h1',⟨h2',h3'⟩,_⟩
 have hbx:=below_then (below_then HZ.out.1 HW4.out.1 (lr_ _)) hb5 (lr_ _)
 have hy:=HZ.out.2.2.2.2.below hbx
 have hE:=intc.equal_any D A xs.length dc n k xs xs w5 h1' hy
 rw[(intc.sameB_iff h1'.fit hy.fit).2 rfl] at hE
 have HE:=hd_ hE
 obtain⟨lx,hlx⟩:=nm_ xs.length
 rw[hlx] at HE⊢
 have HB5:=hd_ hb5
 clear hb5 h1' h2' h3' hbx hy hE hlx HC2
 go_wp2_with fail
 refine HE.out.mono ?_
 rintro e w6 ⟨rfl,rfl⟩
 have hbx:=below_then HW4.out.1 HB5.out (lr_ _)
 have hz:=HZ.out.2.1
 have hx:=(hbx.block w.heap.size (by omega)).trans HZ.out.2.2.1
 have hbel:=below_then HZ.out.1 hbx (lr_ _)
 have hc5:=HW4.out.2.2.below HB5.out
 have v5:=(HB5.out.block _ (Array.getElem?_eq_some_iff.1 HW4.out.2.1).1).trans HW4.out.2.1
 obtain⟨⟨t0,t1,t2,t3,t4,t5⟩,⟨t6,t7,t8,t9,t10,t11,t12,t13,t14⟩,t15⟩:=box16 v5
 have HF:=hd_ (ai_ (finz (c0:=.int .i64 a0) (c1:=.slice E1 e1 h1) (c2:=.int .i64 a2) (c3:=.int .i64 a3) (c4:=.slice E4 e4 h4) (c5:=.int .i64 a5) (x0:=.bool q0) (x1:=.bool q1) (x2:=.int .i64 q2) (x3:=.int .u16 q3) (x4:=.slice F4 m4 j4) (x5:=.slice F5 m5 j5) (x6:=.slice F6 m6 j6) (x7:=.slice F7 m7 j7) (x8:=.slice F8 m8 j8) (c6:=.int .i64 a7) hbel hx) (ai_ hc5 (show w.heap.size+1≤W2.heap.size by have:=HF3.out;omega)))
 obtain⟨⟨f0,f1,f2,f3,f4,f5⟩,⟨f6,f7,f8,f9,f10,f11,f12,f13,f14⟩,f15⟩:=fz16 hx
 obtain⟨⟨s0,s1,s2,s3,s4,s5⟩,⟨s6,s7,s8,s9,s10,s11,s12,s13,s14⟩,s15⟩:=box16 hx
 clear hbel hx hbx hz hc5 v5 HE HB5 HW4 HW HF3
 go_wp2_with fail
 clear f0 s0 f1 s1 f2 s2 f3 s3 f4 s4 f5 s5 f6 s6 f7 s7 f8 s8 f9 s9 f10 s10 f11 s11 f12 s12 f13 s13 f14 s14 f15 s15
 clear t0 t1 t2 t3 t4 t5 t6 t7 t8 t9 t10 t11 t12 t13 t14 t15
 obtain⟨W9,hW9⟩:=nm_ (setN w5 w.heap.size 0 [.int .i64 a0,.slice E1 e1 h1,.int .i64 a2,.int .i64 a3,.slice E4 e4 h4,.int .i64 a5,.bool q0,.bool q1,.int .i64 q2,.int .u16 q3,.slice F4 m4 j4,.slice F5 m5 j5,.slice F6 m6 j6,.slice F7 m7 j7,.slice F8 m8 j8,.int .i64 a7])
 obtain⟨hF,hc,hW2w⟩:=HF.out
 obtain⟨hq,hb,hoth,hsz⟩:=hF W9 hW9
 have hc9:=hc.on (S':=fun g=>w.heap.size≤g) (by rw[hsz];exact lr_ _) (fun g (hg:W2.heap.size≤g) _=>hoth g (by omega)) (fun g (hg:W2.heap.size≤g) _=>by omega)
 simp only[setN] at hW9
 rw[hW9]
 refine bodyPost_ret (v:=.tuple #[.agg #[.int .i64 a0,.slice E1 e1 h1,.int .i64 a2,.int .i64 a3,.slice E4 e4 h4,.int .i64 a5,.bool q0,.bool q1,.int .i64 q2,.int .u16 q3,.slice F4 m4 j4,.slice F5 m5 j5,.slice F6 m6 j6,.slice F7 m7 j7,.slice F8 m8 j8,.int .i64 a7],.int .i64 0]) ?_ rfl ⟨hb,_,_,_,_,_,_,_,_,_,_,_,_,_,_,_,_,rfl,hc9⟩
 exact ret14 rfl rfl hq
end Go.Proofs.YtkjkhoglkpepiaaGreatDoor.nmc
set_option maxRecDepth 100000
set_option maxHeartbeats 16000000
set_option linter.unusedVariables false
set_option linter.unusedSimpArgs false
namespace Go.Proofs.YtkjkhoglkpepiaaGreatDoor.nmc
open Go.RowKit tlvc tlvd ndc txc txm intc intm vtc
theorem time_ok {s:Int}{o:Nat}(ho:o<32)(h:InR s):okW (timeNd s) o 19:=by
 have hm: ∀t,t=tagOf s→t=23∨t=24→mayF t (bodyOf s)=true:=fun t ht h2=>by
  have h1:=(okT_back h).1
  rw[←ht] at h1
  have he:timeE t (bodyOf s)=0:=by unfold timeE;rw[if_pos h1]
  rcases h2 with rfl |rfl
  ·show decide (timeE 23 (bodyOf s)=0)=true;rw[he];rfl
  ·show decide (timeE 24 (bodyOf s)=0)=true;rw[he];rfl
 have hl:(bodyOf s).length≤15:=by rw[bodyOf_len];split<;>omega
 have ht:tagOf s=23∨tagOf s=24:=by unfold tagOf;split<;>simp
 unfold timeNd
 obtain⟨t,htt⟩:=nm_ (tagOf s)
 rw[htt] at ht⊢
 have hm:=hm t htt.symm ht
 rcases ht with rfl |rfl
 ·exact(leaf_ok ho (by decide) (by decide) (by decide+kernel) (by omega) hm).mono (by omega)
 ·exact(leaf_ok ho (by decide) (by decide) (by decide+kernel) (by omega) hm).mono (by omega)
theorem hNd_ok {n:Int}{o:Nat}(ho:o<32)(h:0≤n∧n<281474976710656):okW (hNd n) o 12:=
 (leaf_ok ho (by decide) (by decide) (by decide+kernel) (by rw[hbF_len h];decide) rfl).mono (by rw[hbF_len h];decide)
theorem ceH_cells {S:Nat→Prop}{w:World}{s t k g:Int}(hs:I64 s)(ht:I64 t)(hk:I64 k)(hg:I64 g):CeC S w ⟨s,[],0,t,[],k,ex0,g⟩ (.int .i64 s) (.slice none 0 0) (.int .i64 0) (.int .i64 t) (.slice none 0 0) (.int .i64 k) (.bool false) (.bool false) (.int .i64 0) (.int .u16 0) (.slice none 0 0) (.slice none 0 0) (.slice none 0 0) (.slice none 0 0) (.slice none 0 0) (.int .i64 g):=
 ⟨⟨rfl,hs⟩,LsC.nil,⟨rfl,show I64 0 by unfold I64;decide⟩,⟨rfl,ht⟩,LsC.nil,⟨rfl,hk⟩,ex0_cells _ _,⟨rfl,hg⟩⟩
theorem ceH_right:rightC ceH=true:=by
 have hx:rightX ex0=true:=by unfold rightX boundedX ex0;simp[partX,oddsX]
 show serOK 5 && (rightN [] && (inRB 0 && (inRB 9 && (rightN [] && (hOK 1 && (rightX ex0 && hOK 2))))))=true
 rw[hx]
 decide
theorem ceH_nd:nodeC ceH=ndH:=by
 have h:(nodeX ex0).kids.length=0:=by unfold nodeX ex0 knownN ks5;simp[kthere,Nd.kids,List.filter]
 show Nd.mk 48 [] [.mk 48 [] ([numN 5,nameN [],.mk 48 [] [timeNd 0,timeNd 9],nameN [],hNd 1]++moreL ex0),hNd 2]=_
 unfold moreL
 rw[if_pos h]
 rfl
theorem ceH_write: ∃b,writeF ndH 0=.ok b:=by
 have hN:okW bdH 1 20000:=by
  refine(seqW (L:=1200) (by decide) (.inl rfl) (fun n hn=>?_) (by show 5*1200≤65535;decide)).mono (by show 5*1200+4≤20000;decide)
  simp only[List.mem_cons,List.not_mem_nil,or_false] at hn
  rcases hn with rfl |rfl |rfl |rfl |rfl
  ·exact(leaf_ok (by decide) (by decide) (by decide) (by decide+kernel) (by decide) (by decide)).mono (by decide)
  ·exact(name_ok (by decide) rfl).mono (by decide)
  ·refine(seqW (L:=19) (by decide) (.inl rfl) (fun n hn=>?_) (by show 2*19≤65535;decide)).mono (by show 2*19+4≤1200;decide)
   simp only[List.mem_cons,List.not_mem_nil,or_false] at hn
   rcases hn with rfl |rfl
   ·exact time_ok (by decide) (by unfold InR;decide)
   ·exact time_ok (by decide) (by unfold InR;decide)
  ·exact(name_ok (by decide) rfl).mono (by decide)
  ·exact(hNd_ok (by decide) (by decide)).mono (by decide)
 have h:okW ndH 0 65535:=by
  refine(seqW (L:=20000) (by decide) (.inl rfl) (fun n hn=>?_) (by show 2*20000≤65535;decide)).mono (by show 2*20000+4≤65535;decide)
  simp only[List.mem_cons,List.not_mem_nil,or_false] at hn
  rcases hn with rfl |rfl
  ·exact hN
  ·exact(hNd_ok (by decide) (by decide)).mono (by decide)
 obtain⟨b,hb,_⟩:=h
 exact⟨b,hb⟩
theorem head11_any (w:World)(hT:Tabs w):Calls Tryz.prog 4 #[] w fun e w'=>e=.returned (.bool true)∧Below w.heap.size w w':=by
 obtain⟨b,hb⟩:=ceH_write
 have hpc:putC ceH=.ok b:=by unfold putC;rw[if_pos ceH_right,ceH_nd];exact hb
 have hgb:=read_all_back hb
 have hp1:=put_cert (fun _=>True) ceH _ _ _ _ _ _ _ _ _ _ _ _ _ _ _ _ w (ceH_cells (i64c (by decide)) (i64c (by decide)) (i64c (by decide)) (i64c (by decide))) hT
 rw[hpc] at hp1
 have hno:putC ⟨-1,[],0,0,[],0,ex0,0⟩=.no 111:=by unfold putC;rw[if_neg (by decide)]
 have HP1:=hd_ hp1
 have HP2:=hd_ (fun(W:World) (hW:Below w.heap.size w W)=>by
  have h:=put_cert (fun _=>True) ⟨-1,[],0,0,[],0,ex0,0⟩ _ _ _ _ _ _ _ _ _ _ _ _ _ _ _ _ W (ceH_cells (i64c (by decide)) (i64c (by decide)) (i64c (by decide)) (i64c (by decide))) (hT.below hW)
  rw[hno] at h
  exact h)
 have HT:=hd_ hT
 have HG:=hd_ (ai_ hgb hpc)
 clear hp1 hT hb hpc hgb hno
 go_enter Tryz.func4,Tryz.ntmps4
 go_wp2_with fail
 refine HP1.out.mono ?_
 rintro e w1 ⟨hb1,A,k,rfl,hby,⟨hk1,hk2⟩,_⟩
 have HG1:=hd_ (getHd_any A b.length k b w1 hby hk1 hk2 (HT.out.below hb1) _ HG.out.1 HG.out.2)
 obtain⟨lb,hlb⟩:=nm_ b.length
 rw[hlb] at HG1⊢
 have HB1:=hd_ hb1
 clear hby hk1 hk2 hb1 HP1 HG hlb
 go_wp2_with fail
 refine HG1.out.mono ?_
 rintro e w2 ⟨hb2,c0,c1,c2,c3,c4,c5,x0,x1,x2,x3,x4,x5,x6,x7,x8,c6,rfl,hc⟩
 obtain⟨a0,E1,e1,h1,a2,a3,E4,e4,h4,a5,q0,q1,q2,q3,F4,m4,j4,F5,m5,j5,F6,m6,j6,F7,m7,j7,F8,m8,j8,a7,rfl,rfl,rfl,rfl,rfl,rfl,rfl,rfl,rfl,rfl,rfl,rfl,rfl,rfl,rfl,rfl⟩:=ceC_shape hc
 obtain rfl:a0=5:=by have:=hc.ser.1;simpa[ceH] using this
 obtain rfl:a3=9:=by have:=hc.til.1;simpa[ceH] using this
 obtain rfl:a5=1:=by have:=hc.key.1;simpa[ceH] using this
 obtain rfl:a7=2:=by have:=hc.sig.1;simpa[ceH] using this
 obtain⟨W3,hW3⟩:=nm_ (w2.alloc (.cells #[.int .i64 5,.slice E1 e1 h1,.int .i64 a2,.int .i64 9,.slice E4 e4 h4,.int .i64 1,.bool q0,.bool q1,.int .i64 q2,.int .u16 q3,.slice F4 m4 j4,.slice F5 m5 j5,.slice F6 m6 j6,.slice F7 m7 j7,.slice F8 m8 j8,.int .i64 2] 32))
 have hb3:Below w2.heap.size w2 W3:=by rw[←hW3];exact below_new _ _
 have v3:W3.heap[w2.heap.size]? =some (.cells #[.int .i64 5,.slice E1 e1 h1,.int .i64 a2,.int .i64 9,.slice E4 e4 h4,.int .i64 1,.bool q0,.bool q1,.int .i64 q2,.int .u16 q3,.slice F4 m4 j4,.slice F5 m5 j5,.slice F6 m6 j6,.slice F7 m7 j7,.slice F8 m8 j8,.int .i64 2] 32):=by rw[←hW3];exact heap_new_ _ _
 have hbw:=below_then (below_then HB1.out hb2 (lr_ _)) hb3 (lr_ _)
 have HC:=hd_ (HP2.out W3 hbw)
 have HV:=hd_ (ai_ v3 hbw)
 clear hb2 hc hb3 v3 hbw HP2 HG1 HB1
 go_wp2_with fail
 refine HC.out.mono ?_
 rintro e w4 ⟨hb4,rfl⟩
 have v4:=(hb4.block _ (Array.getElem?_eq_some_iff.1 HV.out.1).1).trans HV.out.1
 obtain⟨⟨s0,s1,s2,s3,s4,s5⟩,_,s15⟩:=box16 v4
 have HE:=hd_ (below_then HV.out.2 hb4 (lr_ _))
 clear hb4 v4 HC HV
 go_wp2
 go_ret
 exact⟨rfl,HE.out⟩
end Go.Proofs.YtkjkhoglkpepiaaGreatDoor.nmc
