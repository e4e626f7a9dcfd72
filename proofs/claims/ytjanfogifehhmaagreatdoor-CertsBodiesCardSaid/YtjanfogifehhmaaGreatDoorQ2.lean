/- Two certificates' bodies. -/
import Derived.Test.YtjanfogifehhmaaGreatDoorQ4
import Derived.Test.YtjanfogifehhmaaGreatDoorQj
import Derived.Lib.QuietBelow
import Derived.BigQuiet
import Derived.Laws.EntriesVeiled
set_option maxRecDepth 100000
set_option maxHeartbeats 32000000
set_option linter.unusedVariables false
set_option linter.unusedSimpArgs false
namespace Go.Proofs.YtjanfogifehhmaaGreatDoor.nmc
open Go.ChangeShapes Go.WideShapes Go.ChangeAt Go.RowKit Go.Proofs.YtjanfogifehhmaaGreatDoor Go.Proofs.YtjanfogifehhmaaGreatDoor.tlvc Go.Proofs.YtjanfogifehhmaaGreatDoor.tlvd Go.Proofs.YtjanfogifehhmaaGreatDoor.ndc Go.Proofs.YtjanfogifehhmaaGreatDoor.txc Go.Proofs.YtjanfogifehhmaaGreatDoor.intc Go.Proofs.YtjanfogifehhmaaGreatDoor.vtc Go.Proofs.YtjanfogifehhmaaGreatDoor.intm Go.Proofs.YtjanfogifehhmaaGreatDoor.txm
def sameC (c d:Ce):Bool:=eqP eqW c.iss d.iss && (eqP eqW c.sub d.sub && (decide (c.ser=d.ser) && (decide (c.frm=d.frm) && (decide (c.til=d.til) && (decide (c.key=d.key) && (decide (c.sig=d.sig) && sameX c.ex d.ex))))))
theorem sameC_iff (c d:Ce):sameC c d=true↔c=d:=by
 unfold sameC
 simp only[Bool.and_eq_true,decide_eq_true_eq,eqW_list,sameX_iff]
 cases c;cases d
 simp only[Ce.mk.injEq]
 constructor
 ·rintro⟨rfl,rfl,rfl,rfl,rfl,rfl,rfl,rfl⟩
  exact⟨rfl,rfl,rfl,rfl,rfl,rfl,rfl,rfl⟩
 ·rintro⟨rfl,rfl,rfl,rfl,rfl,rfl,rfl,rfl⟩
  exact⟨rfl,rfl,rfl,rfl,rfl,rfl,rfl,rfl⟩
theorem rsameC_any {S:Nat→Prop}{c:Ce}{a0:Int}{A1:Option Addr}{l1' i1:Nat}{a2 a3:Int}{A4:Option Addr}{l4 i4:Nat}{a5:Int}{q0 q1:Bool}{q2 q3:Int}{B4:Option Addr}{m4 j4:Nat}{B5:Option Addr}{m5 j5:Nat}{B6:Option Addr}{m6 j6:Nat}{B7:Option Addr}{m7 j7:Nat}{B8:Option Addr}{m8 j8:Nat}{a7:Int}{B':Nat→Prop}{d:Ce}{b0:Int}{E1:Option Addr}{e1 h1:Nat}{b2 b3:Int}{E4:Option Addr}{e4 h4:Nat}{b5:Int}{p0 p1:Bool}{p2 p3:Int}{F4:Option Addr}{n4 k4:Nat}{F5:Option Addr}{n5 k5:Nat}{F6:Option Addr}{n6 k6:Nat}{F7:Option Addr}{n7 k7:Nat}{F8:Option Addr}{n8 k8:Nat}{b7:Int}(w:World)(hx:CeC S w c (.int .i64 a0) (.slice A1 l1' i1) (.int .i64 a2) (.int .i64 a3) (.slice A4 l4 i4) (.int .i64 a5) (.bool q0) (.bool q1) (.int .i64 q2) (.int .u16 q3) (.slice B4 m4 j4) (.slice B5 m5 j5) (.slice B6 m6 j6) (.slice B7 m7 j7) (.slice B8 m8 j8) (.int .i64 a7))(hy:CeC B' w d (.int .i64 b0) (.slice E1 e1 h1) (.int .i64 b2) (.int .i64 b3) (.slice E4 e4 h4) (.int .i64 b5) (.bool p0) (.bool p1) (.int .i64 p2) (.int .u16 p3) (.slice F4 n4 k4) (.slice F5 n5 k5) (.slice F6 n6 k6) (.slice F7 n7 k7) (.slice F8 n8 k8) (.int .i64 b7)):
 Calls Tryz.prog 16 #[.agg #[.int .i64 a0,.slice A1 l1' i1,.int .i64 a2,.int .i64 a3,.slice A4 l4 i4,.int .i64 a5,.bool q0,.bool q1,.int .i64 q2,.int .u16 q3,.slice B4 m4 j4,.slice B5 m5 j5,.slice B6 m6 j6,.slice B7 m7 j7,.slice B8 m8 j8,.int .i64 a7],.agg #[.int .i64 b0,.slice E1 e1 h1,.int .i64 b2,.int .i64 b3,.slice E4 e4 h4,.int .i64 b5,.bool p0,.bool p1,.int .i64 p2,.int .u16 p3,.slice F4 n4 k4,.slice F5 n5 k5,.slice F6 n6 k6,.slice F7 n7 k7,.slice F8 n8 k8,.int .i64 b7]] w fun e w'=>e=.returned (.bool (sameC c d))∧Below w.heap.size w w':=by
 obtain⟨W0,hW0⟩:=nm_ ((w.alloc (.cells #[.int .i64 a0,.slice A1 l1' i1,.int .i64 a2,.int .i64 a3,.slice A4 l4 i4,.int .i64 a5,.bool q0,.bool q1,.int .i64 q2,.int .u16 q3,.slice B4 m4 j4,.slice B5 m5 j5,.slice B6 m6 j6,.slice B7 m7 j7,.slice B8 m8 j8,.int .i64 a7] 32)).alloc (.cells #[.int .i64 b0,.slice E1 e1 h1,.int .i64 b2,.int .i64 b3,.slice E4 e4 h4,.int .i64 b5,.bool p0,.bool p1,.int .i64 p2,.int .u16 p3,.slice F4 n4 k4,.slice F5 n5 k5,.slice F6 n6 k6,.slice F7 n7 k7,.slice F8 n8 k8,.int .i64 b7] 32))
 have hb0:Below w.heap.size w W0:=by rw[←hW0];exact(below_new _ _).alloc (by simp) _
 have v1:W0.heap[w.heap.size]? =some (.cells #[.int .i64 a0,.slice A1 l1' i1,.int .i64 a2,.int .i64 a3,.slice A4 l4 i4,.int .i64 a5,.bool q0,.bool q1,.int .i64 q2,.int .u16 q3,.slice B4 m4 j4,.slice B5 m5 j5,.slice B6 m6 j6,.slice B7 m7 j7,.slice B8 m8 j8,.int .i64 a7] 32):=by rw[←hW0,heap_old_ _ _ (by simp)];exact heap_new_ _ _
 have v2:W0.heap[w.heap.size+1]? =some (.cells #[.int .i64 b0,.slice E1 e1 h1,.int .i64 b2,.int .i64 b3,.slice E4 e4 h4,.int .i64 b5,.bool p0,.bool p1,.int .i64 p2,.int .u16 p3,.slice F4 n4 k4,.slice F5 n5 k5,.slice F6 n6 k6,.slice F7 n7 k7,.slice F8 n8 k8,.int .i64 b7] 32):=by rw[←hW0];exact heap_is (by simp)
 have hbk:=fun(W:World) (hW:Below W0.heap.size W0 W)=>(hW.block _ (Array.getElem?_eq_some_iff.1 v1).1).trans v1
 have hbl:=fun(W:World) (hW:Below W0.heap.size W0 W)=>(hW.block _ (Array.getElem?_eq_some_iff.1 v2).1).trans v2
 have hR:sameC c d=sameC c d:=rfl
 obtain⟨R,hR0⟩:=nm_ (sameC c d)
 rw[hR0]
 unfold sameC at hR0
 have j0:=hx.ser.1
 have j1:=hy.ser.1
 have j2:=hx.frm.1
 have j3:=hy.frm.1
 have j4:=hx.til.1
 have j5:=hy.til.1
 have j6:=hx.key.1
 have j7:=hy.key.1
 have j8:=hx.sig.1
 have j9:=hy.sig.1
 simp only[Value.int.injEq,true_and] at j0 j1 j2 j3 j4 j5 j6 j7 j8 j9
 rw[←j0,←j1,←j2,←j3,←j4,←j5,←j6,←j7,←j8,←j9] at hR0
 obtain⟨g1,g2,g3,g4⟩:=ls4 hx.iss
 obtain⟨g5,g6,g7,g8⟩:=ls4 hy.iss
 obtain⟨o1,o2,o3,o4⟩:=ls4 hx.sub
 obtain⟨o5,o6,o7,o8⟩:=ls4 hy.sub
 have hc1:=ralike_any _ _ A1 E1 l1' i1 e1 h1 c.iss d.iss W0 g1 g5 (g4.below hb0) (g8.below hb0) g2 g3 g6 g7
 have hc2:=fun(W:World) (hW:Below W0.heap.size W0 W)=>ralike_any _ _ A4 E4 l4 i4 e4 h4 c.sub d.sub W o1 o5 (o4.below (below_then hb0 hW (lr_ _))) (o8.below (below_then hb0 hW (lr_ _))) o2 o3 o6 o7
 have hc3:=fun(W:World) (hW:Below W0.heap.size W0 W)=>rsameX_any _ _ c.ex d.ex _ _ _ _ _ _ _ _ _ _ _ _ _ _ _ _ _ _ W (hx.ex.below (below_then hb0 hW (lr_ _))) (hy.ex.below (below_then hb0 hW (lr_ _)))
 obtain⟨r1,hr1⟩:=nm_ (eqP eqW c.iss d.iss)
 obtain⟨r2,hr2⟩:=nm_ (eqP eqW c.sub d.sub)
 obtain⟨r3,hr3⟩:=nm_ (sameX c.ex d.ex)
 rw[hr1] at hc1 hR0
 rw[hr2] at hc2 hR0
 rw[hr3] at hc3 hR0
 have HC1:=hd_ hc1
 have HC2:=hd_ hc2
 have HC3:=hd_ hc3
 have HV:=hd_ (ai_ hbk hbl)
 have HB:=hd_ hb0
 have HR:=hd_ hR0
 have s1:=(box16 v1).1.2.1
 have t1:=(box16 v2).1.2.1
 clear hbk hbl v1 v2 hb0 hx hy g1 g2 g3 g4 g5 g6 g7 g8 o1 o2 o3 o4 o5 o6 o7 o8 hc1 hc2 hc3 hr1 hr2 hr3 hR hR0 j0 j1 j2 j3 j4 j5 j6 j7 j8 j9
 go_enter Tryz.func16,Tryz.ntmps16
 go_wp2_with fail
 clear s1 t1
 refine HC1.out.mono ?_
 rintro e w1 ⟨rfl,hb1⟩
 have s4:=(box16 (HV.out.1 w1 hb1)).1.2.2.2.2.1
 have t4:=(box16 (HV.out.2 w1 hb1)).1.2.2.2.2.1
 have HD:=hd_ (HC2.out w1 hb1)
 have HB1:=hd_ hb1
 clear hb1 HC1 HC2
 go_wp2_with fail
 clear s4 t4
 refine HD.out.mono ?_
 rintro e w2 ⟨rfl,hb2⟩
 have hb2:=below_then HB1.out hb2 (lr_ _)
 obtain⟨⟨s0,s1,s2,s3,s4,s5⟩,⟨s6,s7,s8,s9,s10,s11,s12,s13,s14⟩,s15⟩:=box16 (HV.out.1 w2 hb2)
 obtain⟨⟨t0,t1,t2,t3,t4,t5⟩,⟨t6,t7,t8,t9,t10,t11,t12,t13,t14⟩,t15⟩:=box16 (HV.out.2 w2 hb2)
 clear HD
 have HD:=hd_ (HC3.out w2 hb2)
 have HB2:=hd_ hb2
 have HE:=hd_ (below_then HB.out hb2 (lr_ _))
 clear hb2 HB1 HC3 HV
 cases r1
 ·have HR2:=hd_ HR.out
  clear HD HR
  go_wp2
  go_ret
  exact⟨by rw[←HR2.out];simp,HE.out⟩
 cases r2
 ·have HR2:=hd_ HR.out
  clear HD HR
  go_wp2
  go_ret
  exact⟨by rw[←HR2.out];simp,HE.out⟩
 by_cases y0:a0=b0
 ·subst y0
  have z0:(a0==a0)=true:=by simp
  by_cases y1:a2=b2
  ·subst y1
   have z1:(a2==a2)=true:=by simp
   by_cases y2:a3=b3
   ·subst y2
    have z2:(a3==a3)=true:=by simp
    by_cases y3:a5=b5
    ·subst y3
     have z3:(a5==a5)=true:=by simp
     by_cases y4:a7=b7
     ·subst y4
      have z4:(a7==a7)=true:=by simp
      go_wp2_with fail
      refine HD.out.mono ?_
      rintro e w3 ⟨rfl,hb3⟩
      have HE:=hd_ (below_then HB.out (below_then HB2.out hb3 (lr_ _)) (lr_ _))
      have HR2:=hd_ HR.out
      clear hb3 HD HB HB2 HR
      go_wp2
      go_ret
      exact⟨by rw[←HR2.out];simp,HE.out⟩
     ·have z4:(a7==b7)=false:=by simpa using y4
      rw[decide_eq_false y4] at HR
      have HR2:=hd_ HR.out
      clear HD HR
      go_wp2
      go_ret
      exact⟨by rw[←HR2.out];simp,HE.out⟩
    ·have z3:(a5==b5)=false:=by simpa using y3
     rw[decide_eq_false y3] at HR
     have HR2:=hd_ HR.out
     clear HD HR
     go_wp2
     go_ret
     exact⟨by rw[←HR2.out];simp,HE.out⟩
   ·have z2:(a3==b3)=false:=by simpa using y2
    rw[decide_eq_false y2] at HR
    have HR2:=hd_ HR.out
    clear HD HR
    go_wp2
    go_ret
    exact⟨by rw[←HR2.out];simp,HE.out⟩
  ·have z1:(a2==b2)=false:=by simpa using y1
   rw[decide_eq_false y1] at HR
   have HR2:=hd_ HR.out
   clear HD HR
   go_wp2
   go_ret
   exact⟨by rw[←HR2.out];simp,HE.out⟩
 ·have z0:(a0==b0)=false:=by simpa using y0
  rw[decide_eq_false y0] at HR
  have HR2:=hd_ HR.out
  clear HD HR
  go_wp2
  go_ret
  exact⟨by rw[←HR2.out];simp,HE.out⟩
def PB (w:World)(r:WR)(e:Ending)(w':World):Prop:=Below w.heap.size w w'∧∃(A:Option Addr) (n k:Nat) (er:Int),e=.returned (.tuple #[.slice A n k,.int .i64 er])∧((r=.no er∧er≠0)∨(∃b,r=.ok b∧er=0∧n=b.length∧Bys w' A n b∧(∀g off sp,A=some ⟨g,off,sp⟩→w.heap.size≤g)))
theorem bodyB_ne {c:Ce}{e:Int}(h:bodyW c=.no e):e≠0:=by
 unfold bodyW at h
 split at h
 ·exact errW_ne _ _ _ _ (lr_ _) h
 ·cases h;decide
theorem pb_of {w w':World}{r:WR}{e:Ending}(hne: ∀er,r=.no er→er≠0)(h:PrPost w r e w'):PB w r e w':=by
 obtain⟨hb,h⟩:=h
 cases r with
 |no er=>obtain rfl:=h;exact⟨hb,none,0,0,er,rfl,Or.inl ⟨rfl,hne er rfl⟩⟩
 |ok b=>obtain⟨A,k,rfl,h1,⟨h2,h3⟩,h4⟩:=h;exact⟨hb,A,b.length,k,0,rfl,Or.inr ⟨b,rfl,rfl,rfl,h1,h4⟩⟩
theorem bys_setN {W:World}{A:Option Addr}{n b:Nat}{xs:List Int}(h:Bys W A n xs)(hne: ∀g off sp,A=some ⟨g,off,sp⟩→g≠b)(i:Nat)(vs:List Value):Bys (setN W b i vs) A n xs:=
 ⟨h.1,h.2.1,fun hn=>by
  obtain⟨g,off,e,hg,hc⟩:=h.2.2 hn
  exact⟨g,off,e,by rw[setN_size];exact hg,fun j hj=>(World.cell?_of_block (setN_other (hne _ _ _ e) _ _ _)).trans (hc j hj)⟩⟩
theorem CeC.resig2 {S:Nat→Prop}{w:World}{c:Ce}{c0 c1 c2 c3 c4 c5 x0 x1 x2 x3 x4 x5 x6 x7 x8 c6:Value}{a:Int}(h:CeC S w c c0 c1 c2 c3 c4 c5 x0 x1 x2 x3 x4 x5 x6 x7 x8 c6)(ha:I64 a):CeC S w {c with sig:=a} c0 c1 c2 c3 c4 c5 x0 x1 x2 x3 x4 x5 x6 x7 x8 (.int .i64 a):=
 ⟨h.ser,h.iss,h.frm,h.til,h.sub,h.key,h.ex,⟨rfl,ha⟩⟩
theorem bodies_plain {c d:Ce}{X Y:List Int}(hu:0≤c.ex.usage∧c.ex.usage≤65535)(hv:0≤d.ex.usage∧d.ex.usage≤65535)(h1:bodyW c=.ok X)(h2:bodyW d=.ok Y):X=Y↔c={d with sig:=c.sig}:=by
 have g1:rightC c=true∧writeF (bodyC c) 0=.ok X:=by
  unfold bodyW at h1
  split at h1
  ·rename_i h;exact⟨h,h1⟩
  ·cases h1
 have g2:rightC d=true∧writeF (bodyC d) 0=.ok Y:=by
  unfold bodyW at h2
  split at h2
  ·rename_i h;exact⟨h,h2⟩
  ·cases h2
 constructor
 ·rintro rfl
  exact(bodyC_inj hu hv g1.1 g2.1 (write_inj g1.2 g2.2)).symm
 ·intro h
  have e:bodyC c=bodyC d:=by rw[h];rfl
  have:=g1.2
  rw[e,g2.2] at this
  cases this
  rfl
theorem bodies_same {c d:Ce}{X Y:List Int}(hx:Fit X)(hy:Fit Y)(hu:0≤c.ex.usage∧c.ex.usage≤65535)(hv:0≤d.ex.usage∧d.ex.usage≤65535)(h1:bodyW c=.ok X)(h2:bodyW d=.ok Y):((strOfNums X).toList==(strOfNums Y).toList)=sameC c {d with sig:=c.sig}:=by
 rw[Bool.eq_iff_iff,sameC_iff,←bodies_plain hu hv h1 h2]
 exact intc.sameB_iff hx hy
theorem bodies_any {S:Nat→Prop}{c:Ce}{a0:Int}{A1:Option Addr}{l1' i1:Nat}{a2 a3:Int}{A4:Option Addr}{l4 i4:Nat}{a5:Int}{q0 q1:Bool}{q2 q3:Int}{B4:Option Addr}{m4 j4:Nat}{B5:Option Addr}{m5 j5:Nat}{B6:Option Addr}{m6 j6:Nat}{B7:Option Addr}{m7 j7:Nat}{B8:Option Addr}{m8 j8:Nat}{a7:Int}{B':Nat→Prop}{d:Ce}{b0:Int}{E1:Option Addr}{e1 h1:Nat}{b2 b3:Int}{E4:Option Addr}{e4 h4:Nat}{b5:Int}{p0 p1:Bool}{p2 p3:Int}{F4:Option Addr}{n4 k4:Nat}{F5:Option Addr}{n5 k5:Nat}{F6:Option Addr}{n6 k6:Nat}{F7:Option Addr}{n7 k7:Nat}{F8:Option Addr}{n8 k8:Nat}{b7:Int}(w:World)(hx:CeC S w c (.int .i64 a0) (.slice A1 l1' i1) (.int .i64 a2) (.int .i64 a3) (.slice A4 l4 i4) (.int .i64 a5) (.bool q0) (.bool q1) (.int .i64 q2) (.int .u16 q3) (.slice B4 m4 j4) (.slice B5 m5 j5) (.slice B6 m6 j6) (.slice B7 m7 j7) (.slice B8 m8 j8) (.int .i64 a7))(hy:CeC B' w d (.int .i64 b0) (.slice E1 e1 h1) (.int .i64 b2) (.int .i64 b3) (.slice E4 e4 h4) (.int .i64 b5) (.bool p0) (.bool p1) (.int .i64 p2) (.int .u16 p3) (.slice F4 n4 k4) (.slice F5 n5 k5) (.slice F6 n6 k6) (.slice F7 n7 k7) (.slice F8 n8 k8) (.int .i64 b7))(hT:txc.Tabs w):
 Calls Tryz.prog 6 #[.agg #[.int .i64 a0,.slice A1 l1' i1,.int .i64 a2,.int .i64 a3,.slice A4 l4 i4,.int .i64 a5,.bool q0,.bool q1,.int .i64 q2,.int .u16 q3,.slice B4 m4 j4,.slice B5 m5 j5,.slice B6 m6 j6,.slice B7 m7 j7,.slice B8 m8 j8,.int .i64 a7],.agg #[.int .i64 b0,.slice E1 e1 h1,.int .i64 b2,.int .i64 b3,.slice E4 e4 h4,.int .i64 b5,.bool p0,.bool p1,.int .i64 p2,.int .u16 p3,.slice F4 n4 k4,.slice F5 n5 k5,.slice F6 n6 k6,.slice F7 n7 k7,.slice F8 n8 k8,.int .i64 b7]] w fun e w'=>e=.returned (.bool true)∧Below w.heap.size w w':=by
 obtain⟨W0,hW0⟩:=nm_ ((w.alloc (.cells #[.int .i64 a0,.slice A1 l1' i1,.int .i64 a2,.int .i64 a3,.slice A4 l4 i4,.int .i64 a5,.bool q0,.bool q1,.int .i64 q2,.int .u16 q3,.slice B4 m4 j4,.slice B5 m5 j5,.slice B6 m6 j6,.slice B7 m7 j7,.slice B8 m8 j8,.int .i64 a7] 32)).alloc (.cells #[.int .i64 b0,.slice E1 e1 h1,.int .i64 b2,.int .i64 b3,.slice E4 e4 h4,.int .i64 b5,.bool p0,.bool p1,.int .i64 p2,.int .u16 p3,.slice F4 n4 k4,.slice F5 n5 k5,.slice F6 n6 k6,.slice F7 n7 k7,.slice F8 n8 k8,.int .i64 b7] 32))
 have hb0:Below w.heap.size w W0:=by rw[←hW0];exact(below_new _ _).alloc (by simp) _
 have hz0:w.heap.size+2≤W0.heap.size:=by rw[←hW0];simp
 have v1:W0.heap[w.heap.size]? =some (.cells #[.int .i64 a0,.slice A1 l1' i1,.int .i64 a2,.int .i64 a3,.slice A4 l4 i4,.int .i64 a5,.bool q0,.bool q1,.int .i64 q2,.int .u16 q3,.slice B4 m4 j4,.slice B5 m5 j5,.slice B6 m6 j6,.slice B7 m7 j7,.slice B8 m8 j8,.int .i64 a7] 32):=by rw[←hW0,heap_old_ _ _ (by simp)];exact heap_new_ _ _
 have v2:W0.heap[w.heap.size+1]? =some (.cells #[.int .i64 b0,.slice E1 e1 h1,.int .i64 b2,.int .i64 b3,.slice E4 e4 h4,.int .i64 b5,.bool p0,.bool p1,.int .i64 p2,.int .u16 p3,.slice F4 n4 k4,.slice F5 n5 k5,.slice F6 n6 k6,.slice F7 n7 k7,.slice F8 n8 k8,.int .i64 b7] 32):=by rw[←hW0];exact heap_is (by simp)
 have hbw:=fun W (hW:Below W0.heap.size W0 W)=>below_then hb0 hW (lr_ _)
 have HBW:=hd_ hbw
 have HV1:=hd_ (fun(W:World) (hW:Below W0.heap.size W0 W)=>(hW.block _ (Array.getElem?_eq_some_iff.1 v1).1).trans v1)
 have HV2:=hd_ (fun(W:World) (hW:Below W0.heap.size W0 W)=>(hW.block _ (Array.getElem?_eq_some_iff.1 v2).1).trans v2)
 have hHD:=head11_any W0 (hT.below hb0)
 have HHD:=hd_ hHD
 obtain⟨R1,hR1⟩:=nm_ (bodyW c)
 obtain⟨R2,hR2⟩:=nm_ (bodyW d)
 have HB1:=hd_ (fun W (hW:Below W0.heap.size W0 W)=>(show Calls Tryz.prog 12 #[.agg #[.int .i64 a0,.slice A1 l1' i1,.int .i64 a2,.int .i64 a3,.slice A4 l4 i4,.int .i64 a5,.bool q0,.bool q1,.int .i64 q2,.int .u16 q3,.slice B4 m4 j4,.slice B5 m5 j5,.slice B6 m6 j6,.slice B7 m7 j7,.slice B8 m8 j8,.int .i64 a7]] W (PB W R1) from hR1▸(body_any _ c _ _ _ _ _ _ _ _ _ _ _ _ _ _ _ _ W (hx.below (hbw W hW)) (hT.below (hbw W hW))).mono fun e w' h=>pb_of (fun _ h=>bodyB_ne h) h))
 have HB2:=hd_ (fun W (hW:Below W0.heap.size W0 W)=>(show Calls Tryz.prog 12 #[.agg #[.int .i64 b0,.slice E1 e1 h1,.int .i64 b2,.int .i64 b3,.slice E4 e4 h4,.int .i64 b5,.bool p0,.bool p1,.int .i64 p2,.int .u16 p3,.slice F4 n4 k4,.slice F5 n5 k5,.slice F6 n6 k6,.slice F7 n7 k7,.slice F8 n8 k8,.int .i64 b7]] W (PB W R2) from hR2▸(body_any _ d _ _ _ _ _ _ _ _ _ _ _ _ _ _ _ _ W (hy.below (hbw W hW)) (hT.below (hbw W hW))).mono fun e w' h=>pb_of (fun _ h=>bodyB_ne h) h))
 have hI:I64 a7:=by have h1:=hx.sig.1;have h2:=hx.sig.2;simp only[Value.int.injEq,true_and] at h1;rw[h1];exact h2
 have hS:c.sig=a7:=by have h1:=hx.sig.1;simp only[Value.int.injEq,true_and] at h1;exact h1.symm
 have HS:=hd_ (ai_ hR1 (ai_ hR2 (ai_ hx.ex.u16 (ai_ hy.ex.u16 (ai_ hS hz0)))))
 have HSM:=hd_ (fun W (hW:Below w.heap.size w W)=>rsameC_any W (hx.below hW) ((hy.below hW).resig2 hI))
 clear hR1 hR2 hbw v1 v2 hT hx hy hI hS hHD hz0
 have HW0:=hd_ hb0
 clear hb0
 go_enter Tryz.func6,Tryz.ntmps6
 go_wp2_with fail
 refine HHD.out.mono ?_
 rintro e wa ⟨rfl,hba⟩
 have HA:=hd_ hba
 obtain⟨⟨u0,u1,u2,u3,u4,u5⟩,⟨u6,u7,u8,u9,u10,u11,u12,u13,u14⟩,u15⟩:=box16  (HV1.out wa hba)
 have HC:=hd_ (HB1.out wa hba)
 clear hba HHD HB1 hW0
 as_aux_lemma=>
  go_wp2_with fail
  clear u0 u1 u2 u3 u4 u5 u6 u7 u8 u9 u10 u11 u12 u13 u14 u15
  refine HC.out.mono ?_
  rintro e wb ⟨hbb,D1,n1,k1,er1,rfl,h1⟩
  have hb:=below_then HA.out hbb (lr_ _)
  obtain⟨⟨u0,u1,u2,u3,u4,u5⟩,⟨u6,u7,u8,u9,u10,u11,u12,u13,u14⟩,u15⟩:=box16  (HV2.out wb hb)
  have HC:=hd_ (HB2.out wb hb)
  have H1:=hd_ (ai_ h1 HA.out.size)
  have HA:=hd_ hb
  clear hbb hb h1 HB2
  as_aux_lemma=>
   go_wp2_with fail
   clear u0 u1 u2 u3 u4 u5 u6 u7 u8 u9 u10 u11 u12 u13 u14 u15
   refine HC.out.mono ?_
   rintro e wc ⟨hbc,D2,n2,k2,er2,rfl,h2⟩
   have H2:=hd_ (ai_ h2 (ai_ hbc HA.out.size))
   have HA:=hd_ (below_then HA.out hbc (lr_ _))
   clear hbc h2 HC
   as_aux_lemma=>
    rcases H1.out.1 with ⟨_,hne⟩ | ⟨X,hX1,rfl,rfl,hX,hX2⟩
    ·have HE:=hd_ (HBW.out _ HA.out)
     go_wp2
     go_ret
     exact⟨rfl,HE.out⟩
    rcases H2.out.1 with ⟨_,hne⟩ | ⟨Y,hY1,rfl,rfl,hY,hY2⟩
    ·have HE:=hd_ (HBW.out _ HA.out)
     clear hX1 hX hX2
     go_wp2
     go_ret
     exact⟨rfl,HE.out⟩
    have hzz:=bodies_same hX.fit hY.fit HS.out.2.2.1 HS.out.2.2.2.1 (HS.out.1.trans hX1) (HS.out.2.1.trans hY1)
    have v1:=HV1.out wc HA.out
    have v2:=HV2.out wc HA.out
    obtain⟨W5,hW5⟩:=nm_ (setN wc (w.heap.size+1) 15 [.int .i64 a7])
    have hb5:Below w.heap.size w W5:=by rw[←hW5];exact setN_below (by omega) _ _ _ (HBW.out wc HA.out)
    have v5:W5.heap[w.heap.size+1]? =some (.cells #[.int .i64 b0,.slice E1 e1 h1,.int .i64 b2,.int .i64 b3,.slice E4 e4 h4,.int .i64 b5,.bool p0,.bool p1,.int .i64 p2,.int .u16 p3,.slice F4 n4 k4,.slice F5 n5 k5,.slice F6 n6 k6,.slice F7 n7 k7,.slice F8 n8 k8,.int .i64 a7] 32):=by
     rw[←hW5,setN_box _ _ _ _ v2]
     simp only[putN,List.setIfInBounds_toArray,List.set_cons_zero,List.set_cons_succ]
    have v6:W5.heap[w.heap.size]? =some (.cells #[.int .i64 a0,.slice A1 l1' i1,.int .i64 a2,.int .i64 a3,.slice A4 l4 i4,.int .i64 a5,.bool q0,.bool q1,.int .i64 q2,.int .u16 q3,.slice B4 m4 j4,.slice B5 m5 j5,.slice B6 m6 j6,.slice B7 m7 j7,.slice B8 m8 j8,.int .i64 a7] 32):=by rw[←hW5,setN_other (by omega)];exact v1
    have hX5:Bys W5 D1 X.length X:=by rw[←hW5];exact bys_setN (hX.below H2.out.2.1) (fun g off sp e=>by have:=hX2 g off sp e;have:=H1.out.2;have:=HS.out.2.2.2.2.2;omega) _ _
    have hY5:Bys W5 D2 Y.length Y:=by rw[←hW5];exact bys_setN hY (fun g off sp e=>by have:=hY2 g off sp e;have:=H2.out.2.2;have:=HS.out.2.2.2.2.2;omega) _ _
    have hsm:=HSM.out W5 hb5
    rw[HS.out.2.2.2.2.1] at hzz
    obtain⟨R,hR⟩:=nm_ (sameC c {d with sig:=a7})
    rw[hR] at hzz hsm
    obtain⟨P,hP⟩:=nm_ (strOfNums X)
    obtain⟨Q,hQ⟩:=nm_ (strOfNums Y)
    have z1:=fun(q:Nat) (os:Array Obj)=>intc.str_now (hX5.below (below_regrown W5 q os)) k1
    have z2:=fun(q:Nat) (os:Array Obj)=>intc.str_now (hY5.below (below_regrown W5 q os)) k2
    rw[hP] at z1 hzz
    rw[hQ] at z2 hzz
    obtain⟨lx,hlx⟩:=nm_ X.length
    obtain⟨ly,hly⟩:=nm_ Y.length
    rw[hlx] at z1⊢
    rw[hly] at z2⊢
    have hsc:=fun(q:Nat) (os:Array Obj)=>HSM.out _ (below_then hb5 (below_regrown W5 q os) (lr_ _))
    rw[hR] at hsc
    have HSC:=hd_ hsc
    have HB5:=hd_ hb5
    have HV5:=hd_ (ai_ v6 v5)
    have a15:=(box16 v1).2.2
    have b15:=(box16 v2).2.2
    have f15:=(fz16 v2).2.2
    simp only[setN] at hW5
    clear hX hY hX1 hY1 hX2 hY2 H1 H2 HV1 HV2 v1 v2 v5 v6 hX5 hY5 hsm hsc HSM hR hP hQ hlx hly hb5 HS HA HBW HW0
    go_wp2_with fail
    clear a15 b15 f15
    as_aux_lemma=>
     have HE0:=hd_ HB5.out
     obtain⟨⟨u0,u1,u2,u3,u4,u5⟩,⟨u6,u7,u8,u9,u10,u11,u12,u13,u14⟩,u15⟩:=box16 HV5.out.1
     obtain⟨⟨t0,t1,t2,t3,t4,t5⟩,⟨t6,t7,t8,t9,t10,t11,t12,t13,t14⟩,t15⟩:=box16 HV5.out.2
     have g0:=fun(q:Nat) (os:Array Obj)=>cell_on (below_regrown W5 q os) u0
     have g1:=fun(q:Nat) (os:Array Obj)=>cell_on (below_regrown W5 q os) u1
     have g2:=fun(q:Nat) (os:Array Obj)=>cell_on (below_regrown W5 q os) u2
     have g3:=fun(q:Nat) (os:Array Obj)=>cell_on (below_regrown W5 q os) u3
     have g4:=fun(q:Nat) (os:Array Obj)=>cell_on (below_regrown W5 q os) u4
     have g5:=fun(q:Nat) (os:Array Obj)=>cell_on (below_regrown W5 q os) u5
     have g6:=fun(q:Nat) (os:Array Obj)=>cell_on (below_regrown W5 q os) u6
     have g7:=fun(q:Nat) (os:Array Obj)=>cell_on (below_regrown W5 q os) u7
     have g8:=fun(q:Nat) (os:Array Obj)=>cell_on (below_regrown W5 q os) u8
     have g9:=fun(q:Nat) (os:Array Obj)=>cell_on (below_regrown W5 q os) u9
     have g10:=fun(q:Nat) (os:Array Obj)=>cell_on (below_regrown W5 q os) u10
     have g11:=fun(q:Nat) (os:Array Obj)=>cell_on (below_regrown W5 q os) u11
     have g12:=fun(q:Nat) (os:Array Obj)=>cell_on (below_regrown W5 q os) u12
     have g13:=fun(q:Nat) (os:Array Obj)=>cell_on (below_regrown W5 q os) u13
     have g14:=fun(q:Nat) (os:Array Obj)=>cell_on (below_regrown W5 q os) u14
     have g15:=fun(q:Nat) (os:Array Obj)=>cell_on (below_regrown W5 q os) u15
     have k0':=fun(q:Nat) (os:Array Obj)=>cell_on (below_regrown W5 q os) t0
     have k1':=fun(q:Nat) (os:Array Obj)=>cell_on (below_regrown W5 q os) t1
     have k2':=fun(q:Nat) (os:Array Obj)=>cell_on (below_regrown W5 q os) t2
     have k3':=fun(q:Nat) (os:Array Obj)=>cell_on (below_regrown W5 q os) t3
     have k4':=fun(q:Nat) (os:Array Obj)=>cell_on (below_regrown W5 q os) t4
     have k5':=fun(q:Nat) (os:Array Obj)=>cell_on (below_regrown W5 q os) t5
     have k6':=fun(q:Nat) (os:Array Obj)=>cell_on (below_regrown W5 q os) t6
     have k7':=fun(q:Nat) (os:Array Obj)=>cell_on (below_regrown W5 q os) t7
     have k8':=fun(q:Nat) (os:Array Obj)=>cell_on (below_regrown W5 q os) t8
     have k9':=fun(q:Nat) (os:Array Obj)=>cell_on (below_regrown W5 q os) t9
     have k10':=fun(q:Nat) (os:Array Obj)=>cell_on (below_regrown W5 q os) t10
     have k11':=fun(q:Nat) (os:Array Obj)=>cell_on (below_regrown W5 q os) t11
     have k12':=fun(q:Nat) (os:Array Obj)=>cell_on (below_regrown W5 q os) t12
     have k13':=fun(q:Nat) (os:Array Obj)=>cell_on (below_regrown W5 q os) t13
     have k14':=fun(q:Nat) (os:Array Obj)=>cell_on (below_regrown W5 q os) t14
     have k15':=fun(q:Nat) (os:Array Obj)=>cell_on (below_regrown W5 q os) t15
     clear HV5 HB5 u0 u1 u2 u3 u4 u5 u6 u7 u8 u9 u10 u11 u12 u13 u14 u15 t0 t1 t2 t3 t4 t5 t6 t7 t8 t9 t10 t11 t12 t13 t14 t15
     try dsimp only
     refine wp_region_quiet_below (by kernel_rfl) (by kernel_rfl) ?_
     repeat (go_big_quiet_step ((first | (go_at_call 16;refine Calls.regrown_of (HSC.out _ _)))))
     refine wpQuiet_nil ?_
     intro _ hw'
     obtain⟨⟨nq,osq⟩,hw2⟩:=hw'
     subst hw2
     have HE:=hd_ (below_then HE0.out (below_regrown W5 nq osq) (lr_ _))
     clear HE0 z1 z2 HSC g0 g1 g2 g3 g4 g5 g6 g7 g8 g9 g10 g11 g12 g13 g14 g15 k0' k1' k2' k3' k4' k5' k6' k7' k8' k9' k10' k11' k12' k13' k14' k15'
     go_wp2
     go_ret
     exact⟨rfl,HE.out⟩
end Go.Proofs.YtjanfogifehhmaaGreatDoor.nmc
