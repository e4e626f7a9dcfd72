/- The certificate of bytes: the program's Get. The head of the statements of certificates. Certificates there and back: PART. -/
import Derived.Test.YtjanfogifehhmaaGreatDoorQl
import Derived.Test.YtjanfogifehhmaaGreatDoorQm
import Derived.Test.YtjanfogifehhmaaGreatDoorQi
import Derived.Laws.EntriesVeiled
set_option maxRecDepth 100000
set_option maxHeartbeats 1600000
set_option linter.unusedVariables false
set_option linter.unusedSimpArgs false
namespace Go.Proofs.YtjanfogifehhmaaGreatDoor.nmc
open Go.RowKit tlvc tlvd ndc txc txm intc intm vtc
theorem getC_any (A:Option Addr)(n k:Nat)(xs:List Int)(w:World)(hx:Bys w A n xs)(hc:n≤k)(hm:k≤maxLen)(hT:Tabs w):
 Calls Tryz.prog 14 #[.slice A n k] w (RGet w (getRes xs).1 (getRes xs).2):=by
 have h5:stepC xs<5:=by unfold stepC;repeat' (first |omega |split)
 obtain h |h |h |h |h:stepC xs=0∨stepC xs=1∨stepC xs=2∨stepC xs=3∨stepC xs=4:=by omega
 ·exact getC_s0 A n k xs w hx hc hm hT h
 ·exact getC_s1 A n k xs w hx hc hm hT h
 ·exact getC_s2 A n k xs w hx hc hm hT h
 ·exact getC_s3 A n k xs w hx hc hm hT h
 ·exact getC_s4 A n k xs w hx hc hm hT h
end Go.Proofs.YtjanfogifehhmaaGreatDoor.nmc
set_option maxRecDepth 100000
set_option maxHeartbeats 16000000
set_option linter.unusedVariables false
set_option linter.unusedSimpArgs false
namespace Go.Proofs.YtjanfogifehhmaaGreatDoor.nmc
open Go.RowKit tlvc tlvd ndc txc txm intc intm vtc
theorem time_ok {s:Int}{o:Nat}(ho:o<32)(h:InR s):okW (timeNd s) o 19:=by
 have hm: ∀t,t=tagOf s→t=23∨t=24→mayF t (bodyOf s)=true:=fun t ht h2=>by
  have h1:=(okT_back h).1
  rw[←ht] at h1
  have he:timeE t (bodyOf s)=0:=by unfold timeE;rw[if_pos h1]
  rcases h2 with rfl |rfl
  ·show decide (timeE 23 (bodyOf s)=0)=true;rw[he];rfl
  ·show decide (timeE 24 (bodyOf s)=0)=true;rw[he];rfl
 have hl:(bodyOf s).length≤15:=by rw[bodyOf_len];split<;>omega
 have ht:tagOf s=23∨tagOf s=24:=by unfold tagOf;split<;>simp
 unfold timeNd
 obtain⟨t,htt⟩:=nm_ (tagOf s)
 rw[htt] at ht⊢
 have hm:=hm t htt.symm ht
 rcases ht with rfl |rfl
 ·exact(leaf_ok ho (by decide) (by decide) (by decide+kernel) (by omega) hm).mono (by omega)
 ·exact(leaf_ok ho (by decide) (by decide) (by decide+kernel) (by omega) hm).mono (by omega)
theorem hNd_ok {n:Int}{o:Nat}(ho:o<32)(h:0≤n∧n<281474976710656):okW (hNd n) o 12:=
 (leaf_ok ho (by decide) (by decide) (by decide+kernel) (by rw[hbF_len h];decide) rfl).mono (by rw[hbF_len h];decide)
def ceH (s:Int):Ce:=⟨s,[],0,9,[],1,ex0,2⟩
theorem ceH_cells {S:Nat→Prop}{w:World}{s:Int}(hs:I64 s){t k g:Int}(ht:I64 t)(hk:I64 k)(hg:I64 g):CeC S w ⟨s,[],0,t,[],k,ex0,g⟩ (.int .i64 s) (.slice none 0 0) (.int .i64 0) (.int .i64 t) (.slice none 0 0) (.int .i64 k) (.bool false) (.bool false) (.int .i64 0) (.int .u16 0) (.slice none 0 0) (.slice none 0 0) (.slice none 0 0) (.slice none 0 0) (.slice none 0 0) (.int .i64 g):=
 ⟨⟨rfl,hs⟩,LsC.nil,⟨rfl,show I64 0 by unfold I64;decide⟩,⟨rfl,ht⟩,LsC.nil,⟨rfl,hk⟩,ex0_cells _ _,⟨rfl,hg⟩⟩
theorem i64c {n:Int}(h: -9223372036854775808≤n∧n≤9223372036854775807):I64 n:=h
theorem ceH_right:rightC (ceH 5)=true:=by
 have hx:rightX ex0=true:=by have:=exZ_right false false 0 0;exact this.trans (by decide)
 show serOK 5 && (rightN [] && (inRB 0 && (inRB 9 && (rightN [] && (hOK 1 && (rightX ex0 && hOK 2))))))=true
 rw[hx]
 decide
theorem ceH_write: ∃b,writeF (nodeC (ceH 5)) 0=.ok b:=by
 have hN:okW (bodyC (ceH 5)) 1 20000:=by
  have e:bodyC (ceH 5)=.mk 48 [] [numN 5,nameN [],.mk 48 [] [timeNd 0,timeNd 9],nameN [],hNd 1]:=by
   unfold bodyC moreL
   rw[if_pos (by exact exZ_kids false false 0 0)]
   rfl
  rw[e]
  refine(seqW (L:=1200) (by decide) (.inl rfl) (fun n hn=>?_) (by show 5*1200≤65535;decide)).mono (by show 5*1200+4≤20000;decide)
  simp only[List.mem_cons,List.not_mem_nil,or_false] at hn
  rcases hn with rfl |rfl |rfl |rfl |rfl
  ·exact(leaf_ok (by decide) (by decide) (by decide) (by decide+kernel) (by decide) (by decide)).mono (by decide)
  ·exact(name_ok (by decide) rfl).mono (by decide)
  ·refine(seqW (L:=19) (by decide) (.inl rfl) (fun n hn=>?_) (by show 2*19≤65535;decide)).mono (by show 2*19+4≤1200;decide)
   simp only[List.mem_cons,List.not_mem_nil,or_false] at hn
   rcases hn with rfl |rfl
   ·exact time_ok (by decide) (by unfold InR;decide)
   ·exact time_ok (by decide) (by unfold InR;decide)
  ·exact(name_ok (by decide) rfl).mono (by decide)
  ·exact(hNd_ok (by decide) (by decide)).mono (by decide)
 have h:okW (nodeC (ceH 5)) 0 65535:=by
  refine(seqW (L:=20000) (by decide) (.inl rfl) (fun n hn=>?_) (by show 2*20000≤65535;decide)).mono (by show 2*20000+4≤65535;decide)
  simp only[List.mem_cons,List.not_mem_nil,or_false] at hn
  rcases hn with rfl |rfl
  ·exact hN
  ·exact(hNd_ok (by decide) (by decide)).mono (by decide)
 obtain⟨b,hb,_⟩:=h
 exact⟨b,hb⟩
theorem getRes_back {c:Ce}{b:List Int}(hu:0≤c.ex.usage∧c.ex.usage≤65535)(h:putC c=.ok b):getRes b=(some (some c),0):=by
 unfold putC at h
 split at h
 ·rename_i hr
  unfold getRes
  rw[read_all_back h]
  show(some (getC (nodeC c) b),(0:Int))=_
  rw[getC_back hu hr h]
 ·cases h
theorem head11_any (w:World)(hT:Tabs w):Calls Tryz.prog 9 #[] w fun e w'=>e=.returned (.bool true)∧Below w.heap.size w w':=by
 obtain⟨b,hb⟩:=ceH_write
 have hpc:putC (ceH 5)=.ok b:=by unfold putC;rw[if_pos ceH_right];exact hb
 have hgb:=getRes_back (c:=ceH 5) (by decide) hpc
 have hp1:=put_cert (fun _=>True) (ceH 5) _ _ _ _ _ _ _ _ _ _ _ _ _ _ _ _ w (ceH_cells (i64c (by decide)) (i64c (by decide)) (i64c (by decide)) (i64c (by decide))) hT
 rw[hpc] at hp1
 have hno:putC ⟨-1,[],0,0,[],0,ex0,0⟩=.no 111:=by unfold putC;rw[if_neg (by decide)]
 have HP1:=hd_ hp1
 have HP2:=hd_ (fun(W:World) (hW:Below w.heap.size w W)=>by
  have h:=put_cert (fun _=>True) ⟨-1,[],0,0,[],0,ex0,0⟩ _ _ _ _ _ _ _ _ _ _ _ _ _ _ _ _ W (ceH_cells (i64c (by decide)) (i64c (by decide)) (i64c (by decide)) (i64c (by decide))) (hT.below hW)
  rw[hno] at h
  exact h)
 have HT:=hd_ hT
 have HG:=hd_ hgb
 clear hp1 hT hb hpc hgb hno
 go_enter Tryz.func9,Tryz.ntmps9
 go_wp2_with fail
 refine HP1.out.mono ?_
 rintro e w1 ⟨hb1,A,k,rfl,hby,⟨hk1,hk2⟩,_⟩
 have HG1:=hd_ (getC_any A b.length k b w1 hby hk1 hk2 (HT.out.below hb1))
 rw[HG.out] at HG1
 obtain⟨lb,hlb⟩:=nm_ b.length
 rw[hlb] at HG1⊢
 have HB1:=hd_ hb1
 clear hby hk1 hk2 hb1 HP1 HG hlb
 go_wp2_with fail
 refine HG1.out.mono ?_
 rintro e w2 ⟨hb2,c0,c1,c2,c3,c4,c5,x0,x1,x2,x3,x4,x5,x6,x7,x8,c6,rfl,hc⟩
 obtain⟨a0,E1,e1,h1,a2,a3,E4,e4,h4,a5,q0,q1,q2,q3,F4,m4,j4,F5,m5,j5,F6,m6,j6,F7,m7,j7,F8,m8,j8,a7,rfl,rfl,rfl,rfl,rfl,rfl,rfl,rfl,rfl,rfl,rfl,rfl,rfl,rfl,rfl,rfl⟩:=ceC_shape hc
 obtain rfl:a0=5:=by have:=hc.ser.1;simpa[ceH] using this
 obtain rfl:a3=9:=by have:=hc.til.1;simpa[ceH] using this
 obtain rfl:a5=1:=by have:=hc.key.1;simpa[ceH] using this
 obtain rfl:a7=2:=by have:=hc.sig.1;simpa[ceH] using this
 obtain⟨W3,hW3⟩:=nm_ (w2.alloc (.cells #[.int .i64 5,.slice E1 e1 h1,.int .i64 a2,.int .i64 9,.slice E4 e4 h4,.int .i64 1,.bool q0,.bool q1,.int .i64 q2,.int .u16 q3,.slice F4 m4 j4,.slice F5 m5 j5,.slice F6 m6 j6,.slice F7 m7 j7,.slice F8 m8 j8,.int .i64 2] 32))
 have hb3:Below w2.heap.size w2 W3:=by rw[←hW3];exact below_new _ _
 have v3:W3.heap[w2.heap.size]? =some (.cells #[.int .i64 5,.slice E1 e1 h1,.int .i64 a2,.int .i64 9,.slice E4 e4 h4,.int .i64 1,.bool q0,.bool q1,.int .i64 q2,.int .u16 q3,.slice F4 m4 j4,.slice F5 m5 j5,.slice F6 m6 j6,.slice F7 m7 j7,.slice F8 m8 j8,.int .i64 2] 32):=by rw[←hW3];exact heap_new_ _ _
 have hbw:=below_then (below_then HB1.out hb2 (lr_ _)) hb3 (lr_ _)
 have HC:=hd_ (HP2.out W3 hbw)
 have HV:=hd_ (ai_ v3 hbw)
 clear hb2 hc hb3 v3 hbw HP2 HG1 HB1
 go_wp2_with fail
 refine HC.out.mono ?_
 rintro e w4 ⟨hb4,rfl⟩
 have v4:=(hb4.block _ (Array.getElem?_eq_some_iff.1 HV.out.1).1).trans HV.out.1
 obtain⟨⟨s0,s1,s2,s3,s4,s5⟩,_,s15⟩:=box16 v4
 have HE:=hd_ (below_then HV.out.2 hb4 (lr_ _))
 clear hb4 v4 HC HV
 go_wp2
 go_ret
 exact⟨rfl,HE.out⟩
end Go.Proofs.YtjanfogifehhmaaGreatDoor.nmc
set_option maxRecDepth 100000
set_option maxHeartbeats 32000000
set_option linter.unusedVariables false
set_option linter.unusedSimpArgs false
namespace Go.Proofs.YtjanfogifehhmaaGreatDoor.nmc
open Go.ChangeShapes Go.WideShapes Go.ChangeAt Go.RowKit
open Go.Proofs.YtjanfogifehhmaaGreatDoor Go.Proofs.YtjanfogifehhmaaGreatDoor.tlvc Go.Proofs.YtjanfogifehhmaaGreatDoor.tlvd Go.Proofs.YtjanfogifehhmaaGreatDoor.ndc Go.Proofs.YtjanfogifehhmaaGreatDoor.txc Go.Proofs.YtjanfogifehhmaaGreatDoor.intc Go.Proofs.YtjanfogifehhmaaGreatDoor.vtc Go.Proofs.YtjanfogifehhmaaGreatDoor.nmc
theorem getRes_ne {xs:List Int}{er:Int}(h:getRes xs=(none,er)):er≠0:=by
 unfold getRes at h
 cases hr:readAllF xs with
 |bad a e=>rw[hr] at h;cases h;exact readAll_ne hr
 |ok n k=>rw[hr] at h;cases h
theorem getRes_put {xs:List Int}{c:Ce}{er:Int}(h:getRes xs=(some (some c),er)):putC c=.ok xs:=by
 unfold getRes at h
 cases hr:readAllF xs with
 |bad a e=>rw[hr] at h;cases h
 |ok n k=>
  rw[hr] at h
  have h:=(Prod.mk.inj h).1
  have h:=getC_some (Option.some.inj h)
  unfold putC
  rw[if_pos h.1]
  exact h.2
def putN11 (c:Ce):Nat:=match putC c with
 | .no _=>0
 | .ok _=>1
def getN11 (x:List Int):Nat:=match getRes x with
 | (some (some _),_)=>1
 |_=>0
end Go.Proofs.YtjanfogifehhmaaGreatDoor.nmc
