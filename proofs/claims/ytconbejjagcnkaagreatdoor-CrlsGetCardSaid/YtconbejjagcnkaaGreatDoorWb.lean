/- Lists of what was taken back in cells, and a law's argument. -/
import Derived.Test.YtconbejjagcnkaaGreatDoorWa
set_option maxRecDepth 100000
set_option maxHeartbeats 8000000
set_option linter.unusedVariables false
set_option linter.unusedSimpArgs false
namespace Go.Proofs.YtconbejjagcnkaaGreatDoor.nmc
open Go.RowKit tlvc tlvd ndc txc txm intc intm vtc dtc
structure CrC (S:Nat→Prop) (w:World) (c:Cr) (c0 c1 c2 c3 c4:Value):Prop where
 iss:LsC atE S w c.iss c0
 ths:c1=.int .i64 c.ths∧I64 c.ths
 nxt:c2=.int .i64 c.nxt∧I64 c.nxt
 sers:InC S w c.sers c3
 sig:c4=.int .i64 c.sig∧I64 c.sig
theorem InC.on {S S':Nat→Prop}{w w':World}{xs:List Int}{c0:Value}(h:InC S w xs c0)(hs:w.heap.size≤w'.heap.size)(hk: ∀g,S g→g<w.heap.size→w'.heap[g]? =w.heap[g]?)(hS: ∀g,S g→g<w.heap.size→S' g):InC S' w' xs c0:=by
 obtain⟨A,la,ca,e,h1,h2,h3,h4⟩:=h
 refine⟨A,la,ca,e,h1,h2,⟨h3.1,h3.2.1,fun hn=>?_⟩,fun hn g off sp hA=>?_⟩
 ·obtain⟨b,off,eA,hb,hc⟩:=h3.2.2 hn
  exact⟨b,off,eA,Nat.lt_of_lt_of_le hb hs,fun j hj=>(World.cell?_of_block (hk b (h4 hn b off none eA) hb)).trans (hc j hj)⟩
 ·obtain⟨b,off',eA,hb,_⟩:=h3.2.2 hn
  rw[hA] at eA
  cases eA
  exact hS _ (h4 hn _ _ _ hA) hb
section
variable {S S':Nat→Prop} {w w':World} {c:Cr} {c0 c1 c2 c3 c4:Value}
theorem CrC.on (h:CrC S w c c0 c1 c2 c3 c4)(hs:w.heap.size≤w'.heap.size)(hk: ∀g,S g→g<w.heap.size→w'.heap[g]? =w.heap[g]?)(hS: ∀g,S g→g<w.heap.size→S' g):CrC S' w' c c0 c1 c2 c3 c4:=
 ⟨h.iss.on hs hk hS,h.ths,h.nxt,h.sers.on hs hk hS,h.sig⟩
theorem CrC.below (h:CrC S w c c0 c1 c2 c3 c4)(hb:Below w.heap.size w w'):CrC S w' c c0 c1 c2 c3 c4:=h.on hb.size (fun g _ hg=>hb.block g hg) (fun g h _=>h)
theorem CrC.shape (h:CrC S w c c0 c1 c2 c3 c4): ∃(A0:Option Addr) (l0 k0:Nat) (a1 a2:Int) (A3:Option Addr) (l3 k3:Nat) (a4:Int),c0=.slice A0 l0 k0∧c1=.int .i64 a1∧c2=.int .i64 a2∧c3=.slice A3 l3 k3∧c4=.int .i64 a4:=by
 obtain⟨A0,k0,e0,_⟩:=h.iss
 obtain⟨A3,l3,k3,e3,_⟩:=h.sers
 exact⟨A0,_,k0,_,_,A3,l3,k3,_,e0,h.ths.1,h.nxt.1,e3,h.sig.1⟩
end
abbrev crS:List Sh:=[.row atS,.int .i64,.int .i64,.row (.int .i64),.int .i64]
theorem crl_shs {s:Sh}{ss:List Sh}{l:List Dt}(h:IsShs (s::ss) l): ∃d l',l=d::l'∧IsSh s d∧IsShs ss l':=by
 match l,h with
 | [],h=>unfold IsShs at h;exact h.elim
 |d::l',h=>unfold IsShs at h;exact⟨d,l',rfl,h⟩
theorem crl_nil {l:List Dt}(h:IsShs [] l):l=[]:=by
 match l,h with
 | [],_=>rfl
 |_::_,h=>unfold IsShs at h;exact h.elim
theorem crl_i64 {w:World}{d:Dt}{cs:List Value}(hs:IsSh (.int .i64) d)(h:Lies (fun _=>True) w d cs): ∃n,cs=[.int .i64 n]∧I64 n:=by
 unfold IsSh at hs
 obtain⟨n,rfl⟩:=hs
 unfold Lies at h
 obtain⟨rfl,hw⟩:=h
 have:=bounds_i64 hw
 exact⟨n,rfl,by unfold I64;omega⟩
theorem crl_at {w:World}{d:Dt}{cs:List Value}(hs:IsSh (.row atS) d)(h:Lies (fun _=>True) w d cs)(hf:fitDt d): ∃(a:List At) (c0:Value),cs=[c0]∧LsC atE (fun _=>True) w a c0:=by
 obtain⟨a,⟨c0,e,h⟩,_⟩:=ls_of (E:=atE) (P:=fun _=>True) (fun d cs h1 h2 h3=>by obtain⟨a,ha,_⟩:=at_of h1 h2 h3;exact⟨a,ha,trivial⟩) rfl hs h hf
 exact⟨a,c0,e,h⟩
theorem cr_of {w:World}{l:List Dt}{c0 c1 c2 c3 c4:Value}(hs:IsShs crS l)(h:LiesAll (fun _=>True) w l [c0,c1,c2,c3,c4])(hf:fitDts l): ∃c:Cr,CrC (fun _=>True) w c c0 c1 c2 c3 c4:=by
 unfold crS at hs
 obtain⟨d0,l,rfl,s0,hs⟩:=crl_shs hs
 obtain⟨d1,l,rfl,s1,hs⟩:=crl_shs hs
 obtain⟨d2,l,rfl,s2,hs⟩:=crl_shs hs
 obtain⟨d3,l,rfl,s3,hs⟩:=crl_shs hs
 obtain⟨d4,l,rfl,s4,hs⟩:=crl_shs hs
 obtain rfl:=crl_nil hs
 simp only[fitDts] at hf
 obtain⟨f0,_,_,f3,_,_⟩:=hf
 simp only[LiesAll] at h
 obtain⟨a0,r0,e0,h0,a1,r1,e1,h1,a2,r2,e2,h2,a3,r3,e3,h3,a4,r4,e4,h4,e5⟩:=h
 subst e5
 obtain⟨n0,v0,rfl,b0⟩:=crl_at s0 h0 f0
 obtain⟨n1,rfl,b1⟩:=crl_i64 s1 h1
 obtain⟨n2,rfl,b2⟩:=crl_i64 s2 h2
 obtain⟨n3,⟨v3,rfl,A,la,ca,rfl,b3⟩,_⟩:=in_of s3 h3 f3
 obtain⟨n4,rfl,b4⟩:=crl_i64 s4 h4
 subst e4 e3 e2 e1
 simp only[List.cons_append,List.nil_append,List.append_nil,List.cons.injEq] at e0
 obtain⟨rfl,rfl,rfl,rfl,rfl,_⟩:=e0
 exact⟨⟨n0,n1,n2,n3,n4⟩,b0,⟨rfl,b1⟩,⟨rfl,b2⟩,⟨A,la,ca,rfl,b3⟩,⟨rfl,b4⟩⟩
end Go.Proofs.YtconbejjagcnkaaGreatDoor.nmc
