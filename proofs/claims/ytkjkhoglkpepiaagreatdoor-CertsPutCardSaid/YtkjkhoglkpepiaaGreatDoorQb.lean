/-  Handles' bytes, and bytes' numbers: the program's. Certificates: plain. Certificates in cells, and a law's argument. -/
import Derived.Test.YtkjkhoglkpepiaaGreatDoorKb
import Derived.Test.YtkjkhoglkpepiaaGreatDoorXb
import Derived.Test.YtkjkhoglkpepiaaGreatDoorYf
import Derived.Deep.LoopGhost
import Derived.Test.YtkjkhoglkpepiaaGreatDoorAc
set_option linter.unusedVariables false
set_option linter.unusedSimpArgs false

set_option maxRecDepth 100000
set_option maxHeartbeats 8000000
set_option linter.unusedVariables false
set_option linter.unusedSimpArgs false
namespace Go.Proofs.YtkjkhoglkpepiaaGreatDoor.vtc
open Go.RowKit tlvc tlvd ndc txc txm intc intm nmc
def hbF (n:Int):List Int:=if 0≤n∧n<281474976710656 then [193,94,n/ 1099511627776%256,n/ 4294967296%256,n/ 16777216%256,n/ 65536%256,n/ 256%256,n%256] else []
def numF (b:List Int):Option Int:=if b.length=8∧b.getD 0 0=193∧b.getD 1 0=94 then some (((((b.getD 2 0*256+b.getD 3 0)*256+b.getD 4 0)*256+b.getD 5 0)*256+b.getD 6 0)*256+b.getD 7 0) else none
theorem hbF_yes {n:Int}(h:0≤n∧n<281474976710656):hbF n=[193,94,n/ 1099511627776%256,n/ 4294967296%256,n/ 16777216%256,n/ 65536%256,n/ 256%256,n%256]:=if_pos h
theorem hbF_len {n:Int}(h:0≤n∧n<281474976710656):(hbF n).length=8:=by rw[hbF_yes h];rfl
theorem hbF_fit (n:Int):Fit (hbF n):=by
 unfold hbF
 split
 ·intro x hx
  simp only[List.mem_cons,List.not_mem_nil,or_false] at hx
  rcases hx with rfl |rfl |rfl |rfl |rfl |rfl |rfl |rfl<;>omega
 ·intro x hx;simp at hx
theorem num_hb {n:Int}(h:0≤n∧n<281474976710656):numF (hbF n)=some n:=by
 rw[hbF_yes h]
 unfold numF
 rw[if_pos ⟨rfl,rfl,rfl⟩]
 simp only[List.getD_cons_succ,List.getD_cons_zero]
 congr 1
 omega
theorem eight {b:List Int}(h:b.length=8): ∃a0 a1 a2 a3 a4 a5 a6 a7,b=[a0,a1,a2,a3,a4,a5,a6,a7]:=by
 match b,h with
 | [a0,a1,a2,a3,a4,a5,a6,a7],_=>exact⟨a0,a1,a2,a3,a4,a5,a6,a7,rfl⟩
theorem bytes_yes (n:Int)(w:World)(h:0≤n∧n<281474976710656):Calls Tryz.prog 53 #[.int .i64 n] w fun e w'=>e=.returned (.slice (some ⟨w.heap.size,0,none⟩) 8 8)∧w'=w.alloc (.cells (vals (hbF n)).toArray 5):=by
 have hu:IntKind.u64.wrap n=n:=by simp[IntKind.wrap,IntKind.signed,IntKind.bits];omega
 go_enter Tryz.func53,Tryz.ntmps53
 go_wp2_with fail
 go_ret
 refine⟨rfl,?_⟩
 have e1:n/ 1099511627776%256=n/ 1099511627776:=by omega
 rw[hbF_yes h,e1]
 rfl
theorem bytes_no (n:Int)(w:World)(hi: -9223372036854775808≤n∧n≤9223372036854775807)(h: ¬(0≤n∧n<281474976710656)):Calls Tryz.prog 53 #[.int .i64 n] w fun e w'=>e=.returned (.slice none 0 0)∧w'=w:=by
 obtain⟨u,hu,hne⟩: ∃u,IntKind.u64.wrap n=u∧(u/ 281474976710656 !=0)=true:=by
  refine⟨_,rfl,?_⟩
  have e:IntKind.u64.wrap n=if n<0 then n+18446744073709551616 else n:=by
   simp[IntKind.wrap,IntKind.signed,IntKind.bits]
   split<;>omega
  rw[e,bne_iff_ne]
  split<;>omega
 go_enter Tryz.func53,Tryz.ntmps53
 go_wp2
 go_ret
 exact⟨rfl,rfl⟩
def accF (b:List Int):Nat→Int
 |0=>0
 |i+1=>accF b i*256+b.getD (2+i) 0
theorem accF_bd {b:List Int}(hf:Fit b): ∀i,0≤accF b i∧accF b i<256^i
 |0=>by unfold accF;omega
 |i+1=>by
  have:=accF_bd hf i
  have h:=hf.getD (2+i)
  unfold accF
  rw[Int.pow_succ]
  omega
theorem pow_le6 {i:Nat}(h:i≤5):(256:Int)^i≤1099511627776:=by
 match i,h with
 |0,_=>decide
 |1,_=>decide
 |2,_=>decide
 |3,_=>decide
 |4,_=>decide
 |5,_=>decide
theorem numF_yes {b:List Int}(h:b.length=8∧b.getD 0 0=193∧b.getD 1 0=94):numF b=some (accF b 6):=by
 unfold numF
 rw[if_pos h]
 congr 1
 simp only[accF,Nat.reduceAdd]
 omega
theorem numF_no {b:List Int}(h: ¬(b.length=8∧b.getD 0 0=193∧b.getD 1 0=94)):numF b=none:=if_neg h
def NumPost (w:World)(r:Option Int)(e:Ending)(w':World):Prop:=e=.returned (.tuple #[.int .i64 (r.getD (-1)),.bool r.isSome])∧w'=w
theorem number_yes (b off c:Nat)(xs:List Int)(w:World)(hb:Bys w (some ⟨b,off,none⟩) 8 xs)(hc:8≤c)(hm:c≤9223372036854775807)(h0:xs.getD 0 0=193)(h1:xs.getD 1 0=94):
 Calls Tryz.prog 97 #[.slice (some ⟨b,off,none⟩) 8 c] w (NumPost w (numF xs)):=by
 obtain⟨b',off',e,_,hcell⟩:=hb.2.2 (by omega)
 cases e
 have hfit:=hb.fit
 rw[numF_yes ⟨hb.len,h0,h1⟩]
 have c0:=hcell 0 (by omega)
 have c1:=hcell 1 (by omega)
 rw[h0,Nat.add_zero] at c0
 rw[h1] at c1
 have HC:=hd_ hcell
 have HF:=hd_ hfit
 obtain⟨R,hR⟩:=nm_ (accF xs 6)
 rw[hR]
 have HR:=hd_ hR
 clear hcell hfit hb hR
 go_enter Tryz.func97,Tryz.ntmps97
 go_wp2_with fail
 go_loopg [4,25] 8 (fun gk s4 s25 wx=>∃(i:Nat),s4=.int .i64 (accF xs i)∧s25=.int .i64 i∧i≤6∧7 - i≤gk∧wx=w)
 case atStart=>exact⟨0,rfl,rfl,by omega,by omega,rfl⟩
 case round=>
  obtain⟨i,rfl,rfl,hi,hgk,rfl⟩:=hrel
  by_cases hlt:i<6
  ·have hltz:(i:Int)<6:=by omega
   obtain⟨gk',rfl⟩: ∃g',gk=g'+1:=⟨gk - 1,by omega⟩
   have e1:wr.cell? ⟨b,off+2+i,none⟩=some (.int .u8 (xs.getD (2+i) 0)):=by rw[Nat.add_assoc];exact HC.out (2+i) (by omega)
   have hx:=HF.out.getD (2+i)
   have hbd:=accF_bd HF.out i
   have hp:=pow_le6 (show i≤5 by omega)
   have hs:accF xs (i+1)=accF xs i*256+xs.getD (2+i) 0:=rfl
   obtain⟨x,hxe⟩:=nm_ (xs.getD (2+i) 0)
   obtain⟨a,hae⟩:=nm_ (accF xs i)
   rw[hxe] at e1 hx hs
   rw[hae] at hbd hs⊢
   have hw:=IntWalk.i64_in (a*256) (by omega)
   have hor:=or_i64 8 (by decide) (a*256) x (by unfold I64;omega) (by omega) (by omega) (by omega)
   have HS:=hd_ hs
   have HG:=hd_ hgk
   clear hs hxe hae hbd hp hgk
   go_wp2
   go_roundg gk'
   case measure=>omega
   case rel=>exact⟨i+1,by rw[HS.out],by go_num,by omega,by have:=HG.out;omega,rfl⟩
  ·have hltz: ¬(i:Int)<6:=by omega
   obtain rfl:i=6:=by omega
   have hR:=HR.out
   rw[hR]
   go_wp2
   go_ret2
   exact⟨rfl,rfl⟩
theorem number_any (A:Option Addr)(n c:Nat)(xs:List Int)(w:World)(hb:Bys w A n xs)(hc:n≤c)(hm:c≤maxLen):
 Calls Tryz.prog 97 #[.slice A n c] w (NumPost w (numF xs)):=by
 have hm9:c≤9223372036854775807:=by unfold maxLen at hm;omega
 by_cases h8:n=8
 ·subst h8
  obtain⟨b,off,rfl,_,hcell⟩:=hb.2.2 (by omega)
  by_cases h0:xs.getD 0 0=193
  ·by_cases h1:xs.getD 1 0=94
   ·exact number_yes b off c xs w hb hc hm9 h0 h1
   ·rw[numF_no fun h=>h1 h.2.2]
    have c0:=hcell 0 (by omega)
    have c1:=hcell 1 (by omega)
    rw[h0,Nat.add_zero] at c0
    obtain⟨x,hx⟩:=nm_ (xs.getD 1 0)
    rw[hx] at c1 h1
    clear hcell hb h0 hx
    go_enter Tryz.func97,Tryz.ntmps97
    go_wp2
    go_ret2
    exact⟨rfl,rfl⟩
  ·rw[numF_no fun h=>h0 h.2.1]
   have c0:=hcell 0 (by omega)
   rw[Nat.add_zero] at c0
   obtain⟨x,hx⟩:=nm_ (xs.getD 0 0)
   rw[hx] at c0 h0
   clear hcell hb hx
   go_enter Tryz.func97,Tryz.ntmps97
   go_wp2
   go_ret2
   exact⟨rfl,rfl⟩
 ·rw[numF_no fun h=>h8 (hb.len.symm.trans h.1)]
  have h8z: ¬(n:Int)=8:=by omega
  clear hb
  go_enter Tryz.func97,Tryz.ntmps97
  go_wp2
  go_ret2
  exact⟨rfl,rfl⟩
def BysPost (w:World)(xs:List Int)(e:Ending)(w':World):Prop:=∃A c,e=.returned (.slice A xs.length c)∧Bys w' A xs.length xs∧(xs.length≤c∧c≤maxLen)∧Below w.heap.size w w'
theorem hbF_none {n:Int}(h: ¬(0≤n∧n<281474976710656)):hbF n=[]:=if_neg h
theorem nil_post (w:World):BysPost w [] (.returned (.slice none 0 0)) w:=⟨none,0,rfl,Bys.nil_ _ _,⟨lr_ _,Nat.zero_le _⟩,br_ _ _⟩
theorem hb_bys (n:Int)(w:World)(h:0≤n∧n<281474976710656):Bys (w.alloc (.cells (vals (hbF n)).toArray 5)) (some ⟨w.heap.size,0,none⟩) 8 (hbF n):=
 ⟨hbF_len h,hbF_fit n,fun _=>⟨w.heap.size,0,rfl,by simp,fun j hj=>by
   rw[Nat.zero_add,ch_ (heap_new_ _ _)]
   simp[vals,List.getD_eq_getElem?_getD,List.getElem?_eq_getElem (show j< (hbF n).length by rw[hbF_len h];exact hj)]⟩⟩
end Go.Proofs.YtkjkhoglkpepiaaGreatDoor.vtc
set_option maxRecDepth 100000
set_option maxHeartbeats 8000000
set_option linter.unusedVariables false
set_option linter.unusedSimpArgs false
namespace Go.Proofs.YtkjkhoglkpepiaaGreatDoor.nmc
open Go.RowKit tlvc tlvd ndc txc txm intc intm vtc
structure Ce where
 ser:Int
 iss:List At
 frm:Int
 til:Int
 sub:List At
 key:Int
 ex:Ex
 sig:Int
def inRB (s:Int):Bool:=decide (-631152000≤s) && decide (s≤253402300799)
theorem inRB_iff {s:Int}:inRB s=true↔InR s:=by unfold inRB InR;simp
def hOK (n:Int):Bool:=decide (0≤n) && decide (n<281474976710656)
theorem hOK_iff {n:Int}:hOK n=true↔0≤n∧n<281474976710656:=by unfold hOK;simp
def timeNd (s:Int):Nd:=.mk (tagOf s) (bodyOf s) []
def hNd (n:Int):Nd:=.mk 4 (hbF n) []
def serOK (n:Int):Bool:=decide (0≤n) && decide (n≤4611686018427387904)
def rightC (c:Ce):Bool:=serOK c.ser && (rightN c.iss && (inRB c.frm && (inRB c.til && (rightN c.sub && (hOK c.key && (rightX c.ex && hOK c.sig))))))
def moreL (x:Ex):List Nd:=if (nodeX x).kids.length=0 then [] else [.mk 163 [] [nodeX x]]
def bodyC (c:Ce):Nd:=.mk 48 [] ([numN c.ser,nameN c.iss,.mk 48 [] [timeNd c.frm,timeNd c.til],nameN c.sub,hNd c.key]++moreL c.ex)
def nodeC (c:Ce):Nd:=.mk 48 [] [bodyC c,hNd c.sig]
theorem rightC_parts {c:Ce}(h:rightC c=true):(0≤c.ser∧c.ser≤4611686018427387904)∧rightN c.iss=true∧InR c.frm∧InR c.til∧rightN c.sub=true∧(0≤c.key∧c.key<281474976710656)∧rightX c.ex=true∧(0≤c.sig∧c.sig<281474976710656):=by
 unfold rightC serOK at h
 simp only[Bool.and_eq_true,decide_eq_true_eq,inRB_iff,hOK_iff] at h
 obtain⟨h1,h2,h3,h4,h5,h6,h7,h8⟩:=h
 exact⟨h1,h2,h3,h4,h5,h6,h7,h8⟩
def timeO (n:Nd):Option Int:=if timeE n.tag n.body=0 then some (timeN n.tag n.body) else none
theorem timeO_back {s:Int}(h:InR s):timeO (timeNd s)=some s:=by
 obtain⟨h1,h2⟩:=okT_back h
 show(if timeE (tagOf s) (bodyOf s)=0 then some (timeN (tagOf s) (bodyOf s)) else none)=_
 unfold timeE timeN
 rw[if_pos h1,if_pos rfl,if_pos h1,h2]
end Go.Proofs.YtkjkhoglkpepiaaGreatDoor.nmc
set_option maxRecDepth 100000
set_option maxHeartbeats 8000000
set_option linter.unusedVariables false
set_option linter.unusedSimpArgs false
namespace Go.Proofs.YtkjkhoglkpepiaaGreatDoor.nmc
open Go.RowKit tlvc tlvd ndc txc txm intc intm vtc dtc
structure CeC (S:Nat→Prop) (w:World) (c:Ce) (c0 c1 c2 c3 c4 c5 x0 x1 x2 x3 x4 x5 x6 x7 x8 c6:Value):Prop where
 ser:c0=.int .i64 c.ser∧I64 c.ser
 iss:LsC atE S w c.iss c1
 frm:c2=.int .i64 c.frm∧I64 c.frm
 til:c3=.int .i64 c.til∧I64 c.til
 sub:LsC atE S w c.sub c4
 key:c5=.int .i64 c.key∧I64 c.key
 ex:ExC S w c.ex x0 x1 x2 x3 x4 x5 x6 x7 x8
 sig:c6=.int .i64 c.sig∧I64 c.sig
section
variable {S S':Nat→Prop} {w w':World} {c:Ce} {c0 c1 c2 c3 c4 c5 x0 x1 x2 x3 x4 x5 x6 x7 x8 c6:Value}
theorem CeC.on (h:CeC S w c c0 c1 c2 c3 c4 c5 x0 x1 x2 x3 x4 x5 x6 x7 x8 c6)(hs:w.heap.size≤w'.heap.size)(hk: ∀g,S g→g<w.heap.size→w'.heap[g]? =w.heap[g]?)(hS: ∀g,S g→g<w.heap.size→S' g):CeC S' w' c c0 c1 c2 c3 c4 c5 x0 x1 x2 x3 x4 x5 x6 x7 x8 c6:=
 ⟨h.ser,h.iss.on hs hk hS,h.frm,h.til,h.sub.on hs hk hS,h.key,h.ex.on hs hk hS,h.sig⟩
theorem CeC.below (h:CeC S w c c0 c1 c2 c3 c4 c5 x0 x1 x2 x3 x4 x5 x6 x7 x8 c6)(hb:Below w.heap.size w w'):CeC S w' c c0 c1 c2 c3 c4 c5 x0 x1 x2 x3 x4 x5 x6 x7 x8 c6:=h.on hb.size (fun g _ hg=>hb.block g hg) (fun g h _=>h)
end
abbrev ceS:List Sh:=[.int .i64,.row atS,.int .i64,.int .i64,.row atS,.int .i64,.agg exS,.int .i64]
theorem shs_cons {s:Sh}{ss:List Sh}{l:List Dt}(h:IsShs (s::ss) l): ∃d l',l=d::l'∧IsSh s d∧IsShs ss l':=by
 match l,h with
 | [],h=>unfold IsShs at h;exact h.elim
 |d::l',h=>unfold IsShs at h;exact⟨d,l',rfl,h⟩
theorem shs_nil {l:List Dt}(h:IsShs [] l):l=[]:=by
 match l,h with
 | [],_=>rfl
 |_::_,h=>unfold IsShs at h;exact h.elim
theorem i64_of {w:World}{d:Dt}{cs:List Value}(hs:IsSh (.int .i64) d)(h:Lies (fun _=>True) w d cs): ∃n,cs=[.int .i64 n]∧I64 n:=by
 unfold IsSh at hs
 obtain⟨n,rfl⟩:=hs
 unfold Lies at h
 obtain⟨rfl,hw⟩:=h
 have:=bounds_i64 hw
 exact⟨n,rfl,by unfold I64;omega⟩
theorem at_ls {w:World}{d:Dt}{cs:List Value}(hs:IsSh (.row atS) d)(h:Lies (fun _=>True) w d cs)(hf:fitDt d): ∃(a:List At) (c0:Value),cs=[c0]∧LsC atE (fun _=>True) w a c0:=by
 obtain⟨a,⟨c0,e,h⟩,_⟩:=ls_of (E:=atE) (P:=fun _=>True) (fun d cs h1 h2 h3=>by obtain⟨a,ha,_⟩:=at_of h1 h2 h3;exact⟨a,ha,trivial⟩) rfl hs h hf
 exact⟨a,c0,e,h⟩
theorem ce_of {w:World}{l:List Dt}{c0 c1 c2 c3 c4 c5 x0 x1 x2 x3 x4 x5 x6 x7 x8 c6:Value}(hs:IsShs ceS l)(h:LiesAll (fun _=>True) w l [c0,c1,c2,c3,c4,c5,x0,x1,x2,x3,x4,x5,x6,x7,x8,c6])(hf:fitDts l): ∃c:Ce,CeC (fun _=>True) w c c0 c1 c2 c3 c4 c5 x0 x1 x2 x3 x4 x5 x6 x7 x8 c6:=by
 unfold ceS at hs
 obtain⟨d0,l,rfl,s0,hs⟩:=shs_cons hs
 obtain⟨d1,l,rfl,s1,hs⟩:=shs_cons hs
 obtain⟨d2,l,rfl,s2,hs⟩:=shs_cons hs
 obtain⟨d3,l,rfl,s3,hs⟩:=shs_cons hs
 obtain⟨d4,l,rfl,s4,hs⟩:=shs_cons hs
 obtain⟨d5,l,rfl,s5,hs⟩:=shs_cons hs
 obtain⟨d6,l,rfl,s6,hs⟩:=shs_cons hs
 obtain⟨d7,l,rfl,s7,hs⟩:=shs_cons hs
 obtain rfl:=shs_nil hs
 simp only[fitDts] at hf
 obtain⟨_,f1,_,_,f4,_,f6,_,_⟩:=hf
 simp only[LiesAll] at h
 obtain⟨a0,r0,e0,h0,a1,r1,e1,h1,a2,r2,e2,h2,a3,r3,e3,h3,a4,r4,e4,h4,a5,r5,e5,h5,a6,r6,e6,h6,a7,r7,e7,h7,e8⟩:=h
 subst e8
 obtain⟨n0,rfl,b0⟩:=i64_of s0 h0
 obtain⟨n1,v1,rfl,b1⟩:=at_ls s1 h1 f1
 obtain⟨n2,rfl,b2⟩:=i64_of s2 h2
 obtain⟨n3,rfl,b3⟩:=i64_of s3 h3
 obtain⟨n4,v4,rfl,b4⟩:=at_ls s4 h4 f4
 obtain⟨n5,rfl,b5⟩:=i64_of s5 h5
 obtain⟨n7,rfl,b7⟩:=i64_of s7 h7
 unfold IsSh at s6
 obtain⟨ds,rfl,s6⟩:=s6
 unfold Lies at h6
 unfold fitDt at f6
 subst e7 e6 e5 e4 e3 e2 e1
 simp only[List.cons_append,List.nil_append,List.append_nil,List.cons.injEq] at e0
 obtain⟨rfl,rfl,rfl,rfl,rfl,rfl,e0⟩:=e0
 have hl:a6=[x0,x1,x2,x3,x4,x5,x6,x7,x8]∧c6=.int .i64 n7:=by
  have:=congrArg List.reverse e0
  simp only[List.reverse_append,List.reverse_cons,List.reverse_nil,List.nil_append,List.cons_append,List.cons.injEq] at this
  refine⟨?_,this.1⟩
  have:=congrArg List.reverse this.2
  simpa using this.symm
 obtain⟨rfl,rfl⟩:=hl
 obtain⟨x,hx⟩:=ex_of s6 h6 f6
 exact⟨⟨n0,n1,n2,n3,n4,n5,x,n7⟩,⟨rfl,b0⟩,b1,⟨rfl,b2⟩,⟨rfl,b3⟩,b4,⟨rfl,b5⟩,hx,⟨rfl,b7⟩⟩
end Go.Proofs.YtkjkhoglkpepiaaGreatDoor.nmc
