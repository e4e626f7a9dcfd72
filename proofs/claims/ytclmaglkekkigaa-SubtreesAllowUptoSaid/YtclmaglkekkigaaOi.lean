/- Lists that share their elements with others: copied by append behind an empty list. -/
import Derived.Test.YtclmaglkekkigaaOh
set_option maxRecDepth 100000
set_option maxHeartbeats 3200000
set_option linter.unusedVariables false
set_option linter.unusedSimpArgs false
namespace Go.Proofs.Ytclmaglkekkigaa.nmc
open Go.RowKit Go.Proofs.Ytclmaglkekkigaa.tlvc Go.Proofs.Ytclmaglkekkigaa.ndc Go.Proofs.Ytclmaglkekkigaa.txc Go.Proofs.Ytclmaglkekkigaa.txm
/-- append(T{}, xs...). -/
theorem copy_ls {α:Type}{E:El α}{t e:TypeId}{bytes:Nat}(I:Inf Try.prog t e E.sz bytes)(hby:bytes≤40){S:Nat→Prop}{W:World}{xs:List α}{A:Option Addr}{l c:Nat}(h:LsC E S W xs (.slice A l c))(hl:l≤1048576):
    ∃A' c' w',(Builtin.append_ #[t,t] t #[.slice (some ⟨W.heap.size,0,none⟩) 0 0,.slice A l c]).run Try.prog (W.alloc (.cells #[] e))=.ok (.slice A' l c') w'∧GRow E e W.heap.size (fun g=>S g∨W.heap.size≤g) w' (.slice A' l c') xs∧Below W.heap.size W w':=by
  obtain⟨h1,h2,h3,h4⟩:=ls4 h
  subst h1
  have hb0:=below_new W (.cells #[] e)
  have hz:=size_new W (.cells #[] e)
  have h0:GRow E e W.heap.size (fun g=>S g∨W.heap.size≤g) (W.alloc (.cells #[] e)) (.slice (some ⟨W.heap.size,0,none⟩) 0 0) []:=GRow.empty (Nat.le_refl _) (heap_new_ _ _)
  have hm:xs.length*bytes≤1048576*40:=Nat.mul_le_mul hl hby
  obtain⟨v1,w1,hr1,hg1,hgr1⟩:=h0.apps I (fun _ h=>.inr h) t (A:=A) (c:=c) (ys:=xs) (((Lst.boundS h4).below hb0).mono (fun g hg=>⟨.inl hg.1,by rw[hz];have:=hg.2;omega,fun e=>absurd (show g=W.heap.size by simpa[Value.ownBlock] using e) (by have:=hg.2;omega)⟩)) (by simp only[List.length_nil,Nat.zero_add];omega) (by simp;unfold maxLen;omega) hb0.size
  obtain⟨A',c',rfl,_,_⟩:=hg1.shape
  rw[List.nil_append] at hr1 hg1
  exact⟨A',c',w1,hr1,hg1,hb0.grown hgr1 hb0.size (fun j hj=>by cases hj;exact Nat.le_refl _)⟩
/-- One list more behind a list of lists: append(l, x). -/
theorem push_ls {α:Type}{E:El α}{t e:TypeId}{bytes:Nat}(I:Inf Try.prog t e (lsE E).sz bytes)(hby:bytes≤40){b0:Nat}{Y:Nat→Prop}(hY: ∀g,b0≤g→Y g){w:World}{v:Value}{L:List (List α)}(hG:GRow (lsE E) e b0 Y w v L){x:List α}{A:Option Addr}{l c:Nat}(hx:LsC E Y w x (.slice A l c))(hxo: ∀g,v.ownBlock=some g→LsC E (fun k=>Y k∧k≠g) w x (.slice A l c))(hL:L.length≤1048576)(hb:b0≤w.heap.size):
    ∃A' c' w',(Builtin.append_ #[t,t] t #[v,.slice (some ⟨w.heap.size,0,none⟩) 1 1]).run Try.prog (w.alloc (.cells #[.slice A l c] e))=.ok (.slice A' (L.length+1) c') w'∧GRow (lsE E) e b0 Y w' (.slice A' (L.length+1) c') (L++[x])∧Below b0 w w':=by
  have hb0:=below_new w (.cells #[.slice A l c] e)
  have hz:=size_new w (.cells #[.slice A l c] e)
  have hG':=hG.below hY hb0
  have hown:=hG.lt
  have hbox:=heap_new_ w (.cells #[.slice A l c] e)
  have hld:LsC E (Fr Y (w.alloc (.cells #[.slice A l c] e)).heap.size v.ownBlock) (w.alloc (.cells #[.slice A l c] e)) x (.slice A l c):=by
    cases hv:v.ownBlock with
    |none=>
     obtain⟨A1,c1,e1,k1,k2,k3⟩:=hx.below hb0
     exact⟨A1,c1,e1,k1,k2,(Lst.boundS k3).mono (fun g hg=>⟨hg.1,hg.2,fun e=>by cases e⟩)⟩
    |some g=>
     obtain⟨A1,c1,e1,k1,k2,k3⟩:=(hxo g hv).below hb0
     exact⟨A1,c1,e1,k1,k2,(Lst.boundS k3).mono (fun k hk=>⟨hk.1.1,hk.2,fun e=>hk.1.2 (Option.some.inj e)⟩)⟩
  have hm:(L.length+1)*bytes≤1048577*40:=Nat.mul_le_mul (by omega) hby
  obtain⟨v',w',hr,hG2,hgr⟩:=hG'.app (E:=lsE E) I hY t (g:=w.heap.size) (off:=0) (c:=1) (x:=x) (news:=[.slice A l c]) ⟨hY _ hb,by rw[hz];omega,fun e=>by have:=(hown _ e.symm).2;omega⟩
    (fun j u hu=>by rw[Nat.zero_add,Lib.cell_of_heap hbox];simpa using hu) ⟨_,rfl,hld⟩ (by omega) (by unfold maxLen;omega) (by rw[hz];omega)
  obtain⟨A',c',rfl,_,_⟩:=hG2.shape
  rw[show(L++[x]).length=L.length+1 by simp] at hr hG2
  exact⟨A',c',w',hr,hG2,(hb0.mono hb).grown hgr (by rw[hz];omega) (fun j hj=>(hown j hj).1)⟩
theorem grow_ls {α:Type}{E:El α}{e:TypeId}{b0:Nat}{Y:Nat→Prop}(hY: ∀g,b0≤g→Y g){w:World}{A:Option Addr}{l c:Nat}{L:List α}(hG:GRow E e b0 Y w (.slice A l c) L):LsC E Y w L (.slice A l c):=by
  obtain⟨A1,c1,e1,k1,k2,k3⟩:=hG.lst hY
  exact⟨A1,c1,e1,k1,k2,k3⟩
/-- append(append([][]api.Name{}, P...), nil). -/
theorem none_run {S:Nat→Prop}{W:World}{P:List (List (List At))}{A:Option Addr}{l c:Nat}(h:LsC nlE S W P (.slice A l c))(hP:P.length≤1048576):
    ∃V1 c1 w1 V2 c2 w2,(Builtin.append_ #[22,22] 22 #[.slice (some ⟨W.heap.size,0,none⟩) 0 0,.slice A l c]).run Try.prog (W.alloc (.cells #[] 23))=.ok (.slice V1 l c1) w1∧
     (Builtin.append_ #[22,22] 22 #[.slice V1 l c1,.slice (some ⟨w1.heap.size,0,none⟩) 1 1]).run Try.prog (w1.alloc (.cells #[.slice none 0 0] 23))=.ok (.slice V2 (l+1) c2) w2∧LsC nlE (fun g=>S g∨W.heap.size≤g) w2 (P++[[]]) (.slice V2 (l+1) c2)∧Below W.heap.size W w2:=by
  have hl:=(ls4 h).1
  obtain⟨V1,c1,w1,hr1,hG1,hb1⟩:=copy_ls Try.infNl (by omega) h (by omega)
  obtain⟨V2,c2,w2,hr2,hG2,hb2⟩:=push_ls Try.infNl (by omega) (fun g hg=>.inr hg) hG1 (x:=[]) LsC.nil (fun _ _=>LsC.nil) hP hb1.size
  rw[hl] at hr2 hG2
  exact⟨V1,c1,w1,V2,c2,w2,hr1,hr2,grow_ls (fun g hg=>.inr hg) hG2,hb1.trans hb2⟩
end Go.Proofs.Ytclmaglkekkigaa.nmc
