/- What is signed of a certificate stands in its bytes. -/
import Derived.Test.YtjanfogifehhmaaGreatDoorQj
import Derived.Test.YtjanfogifehhmaaGreatDoorQk
import Derived.Laws.EntriesVeiled
set_option maxRecDepth 100000
set_option maxHeartbeats 32000000
set_option linter.unusedVariables false
set_option linter.unusedSimpArgs false
namespace Go.Proofs.YtjanfogifehhmaaGreatDoor.nmc
open Go.ChangeShapes Go.WideShapes Go.ChangeAt Go.RowKit Go.Proofs.YtjanfogifehhmaaGreatDoor Go.Proofs.YtjanfogifehhmaaGreatDoor.tlvc Go.Proofs.YtjanfogifehhmaaGreatDoor.tlvd Go.Proofs.YtjanfogifehhmaaGreatDoor.ndc Go.Proofs.YtjanfogifehhmaaGreatDoor.txc Go.Proofs.YtjanfogifehhmaaGreatDoor.intc Go.Proofs.YtjanfogifehhmaaGreatDoor.vtc Go.Proofs.YtjanfogifehhmaaGreatDoor.intm Go.Proofs.YtjanfogifehhmaaGreatDoor.txm
def PU (w:World)(r:WR)(e:Ending)(w':World):Prop:=Below w.heap.size w w'∧∃(A:Option Addr) (n k:Nat) (er:Int),e=.returned (.tuple #[.slice A n k,.int .i64 er])∧((r=.no er∧er≠0)∨(∃b,r=.ok b∧er=0∧n=b.length∧Bys w' A n b∧n≤k∧k≤maxLen))
theorem bodyW_ne {c:Ce}{e:Int}(h:bodyW c=.no e):e≠0:=by
 unfold bodyW at h
 split at h
 ·exact errW_ne _ _ _ _ (lr_ _) h
 ·cases h;decide
theorem pu_of {w w':World}{r:WR}{e:Ending}(hne: ∀er,r=.no er→er≠0)(h:PrPost w r e w'):PU w r e w':=by
 obtain⟨hb,h⟩:=h
 cases r with
 |no er=>obtain rfl:=h;exact⟨hb,none,0,0,er,rfl,Or.inl ⟨rfl,hne er rfl⟩⟩
 |ok b=>obtain⟨A,k,rfl,h1,⟨h2,h3⟩,_⟩:=h;exact⟨hb,A,b.length,k,0,rfl,Or.inr ⟨b,rfl,rfl,rfl,h1,h2,h3⟩⟩
theorem CeC.resig {S:Nat→Prop}{w:World}{c:Ce}{c0 c1 c2 c3 c4 c5 x0 x1 x2 x3 x4 x5 x6 x7 x8 c6:Value}{a:Int}(h:CeC S w c c0 c1 c2 c3 c4 c5 x0 x1 x2 x3 x4 x5 x6 x7 x8 c6)(ha:I64 a):CeC S w {c with sig:=a} c0 c1 c2 c3 c4 c5 x0 x1 x2 x3 x4 x5 x6 x7 x8 (.int .i64 a):=
 ⟨h.ser,h.iss,h.frm,h.til,h.sub,h.key,h.ex,⟨rfl,ha⟩⟩
theorem put_pos {n:Nd}{o:Nat}{b:List Int}(h:writeF n o=.ok b):0<b.length∧b.length≤65539:=by
 obtain⟨t,b0,ks⟩:=n
 have key: ∃xs,b=putBytes t xs∧xs.length≤65535:=by
  obtain⟨_,he,hh⟩:=writeF_ok h
  rcases hh with ⟨_,_,h1,rfl⟩ | ⟨_,_,k,_,_,h1,rfl⟩
  ·exact⟨_,rfl,h1⟩
  ·exact⟨_,rfl,h1⟩
 obtain⟨xs,rfl,hl⟩:=key
 rcases put_shape t xs hl with ⟨e,_⟩ | ⟨e,_,_⟩ | ⟨e,_⟩<;>rw[e]<;>simp only[List.length_cons]<;>omega
theorem signed_plain {c:Ce}{a:Int}{A B X:List Int}(h1:bodyW c=.ok A)(h2:putC c=.ok B)(h3:bodyW {c with sig:=a}=.ok X):X=A∧(A.length≤65539∧B.length≤65539)∧0<A.length∧∃i:Nat,i+A.length≤B.length∧(B.take (i+A.length)).drop i=A:=by
 have g1:writeF (bodyC c) 0=.ok A:=by
  unfold bodyW at h1
  split at h1
  ·exact h1
  ·cases h1
 have g2:writeF (.mk 48 [] [bodyC c,hNd c.sig]) 0=.ok B:=by
  unfold putC at h2
  split at h2
  ·exact h2
  ·cases h2
 have g3:writeF (bodyC c) 0=.ok X:=by
  unfold bodyW at h3
  split at h3
  ·exact h3
  ·cases h3
 rw[g1] at g3
 cases g3
 obtain⟨i,hi,he⟩:=body_in g1 g2
 refine⟨rfl,⟨(put_pos g1).2,(put_pos g2).2⟩,(put_pos g1).1,i,hi,?_⟩
 rw[List.drop_take,Nat.add_sub_cancel_left]
 exact he
end Go.Proofs.YtjanfogifehhmaaGreatDoor.nmc
