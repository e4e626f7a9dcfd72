/- New memory that may be written to; lists of names copied, whole: the program's copies. -/
import Derived.Test.YtclmaglkekkigaaOc
set_option maxRecDepth 100000
set_option maxHeartbeats 1600000
set_option linter.unusedVariables false
set_option linter.unusedSimpArgs false
namespace Go.Proofs.Ytclmaglkekkigaa.nmc
open Go.RowKit Go.Proofs.Ytclmaglkekkigaa.tlvc Go.Proofs.Ytclmaglkekkigaa.ndc Go.Proofs.Ytclmaglkekkigaa.txc Go.Proofs.Ytclmaglkekkigaa.txm
/-- From the block b on, everything may be written to. -/
def Nf (b:Nat)(w:World):Prop:=∀g i,b≤g→w.frozen? ⟨g,i,none⟩=false
theorem Nf.start (w:World):Nf w.heap.size w:=fun g i hg=>by
  unfold World.frozen?
  rw[Array.getElem?_eq_none hg]
theorem Nf.mono {b c:Nat}{w:World}(h:Nf b w)(hc:b≤c):Nf c w:=fun g i hg=>h g i (Nat.le_trans hc hg)
theorem Nf.alloc {b:Nat}{w:World}(h:Nf b w)(cs:Array Value)(T:TypeId):Nf b (w.alloc (.cells cs T)):=fun g i hg=>by
  by_cases h1:g<w.heap.size
  · rw[World.frozen?_of_block (a:=⟨g,i,none⟩) (heap_old_ w _ h1)];exact h g i hg
  · by_cases h2:g=w.heap.size
    · subst h2;exact Lib.frozen_of_heap (heap_new_ w _) i
    · unfold World.frozen?
      rw[Array.getElem?_eq_none (by rw[size_new];show w.heap.size+1≤g;omega)]
theorem Nf.drew {b:Nat}{w:World}(h:Nf b w):Nf b w.drew:=h
theorem Nf.then_ {b:Nat}{w w':World}(h:Nf b w)(hb:Below w.heap.size w w')(hn:Nf w.heap.size w'):Nf b w':=fun g i hg=>by
  by_cases h1:g<w.heap.size
  · rw[World.frozen?_of_block (a:=⟨g,i,none⟩) (hb.block g h1)];exact h g i hg
  · exact hn g i (by omega)
theorem Nf.modify {b:Nat}{w:World}(h:Nf b w)(g:Nat)(f:Array Value→Array Value):Nf b {w with heap:=w.heap.modify g fun | .cells c elem fr=>.cells (f c) elem fr |o=>o}:=fun k i hk=>by
  have h0:=h k i hk
  unfold World.frozen? at h0⊢
  simp only[Array.getElem?_modify]
  by_cases e:g=k
  · subst e
    rw[if_pos rfl]
    cases hw:w.heap[g]? with
    |none=>rfl
    |some o=>
     rw[hw] at h0
     cases o<;>simp_all
  · rw[if_neg e];exact h0
theorem Nf.setRow {b:Nat}{w:World}(h:Nf b w)(g:Nat)(cs:Array Value):Nf b (w.setRow g cs):=h.modify g (fun _=>cs)
theorem Nf.setCell {b:Nat}{w:World}(h:Nf b w)(a:Addr)(v:Value):Nf b (w.setCell a v):=h.modify a.block (fun c=>if a.spot.isSome then c else c.setIfInBounds a.off v)
theorem app_nf {P:Program}(w:World)(base:Nat)(t ty e:TypeId)(i:TypeInfo)(z:Value)(size bytes:Nat)(ht:P.underlying t=some (.slice e))(hi:P.info? e=some i)(hz:i.zero=some z)
    (hsize:i.size=size) (hby:i.bytes=bytes) (hzs:z.cells.size=size) (hsz:0<size)
    (v:Value) (n:Nat) (xs:List Value) (hown:w.ownsRow base e size v n xs)
    (a:Addr) (m c:Nat) (news:List Value) (hl:news.length=m*size) (hnews: ∀j u,news[j]? =some u→w.cell? (a.add j)=some u) (h1: ∀u∈news,u.oneCell'=true)
    (h63:n+m≤maxLen) (hbytes:(n+m)*bytes≤140737488355328) {v':Value} {w':World} (hr:(Builtin.append_ #[t,t] ty #[v,.slice (some a) m c]).run P w=.ok v' w') {b:Nat} (hb:Nf b w):Nf b w':=by
  subst hsize
  rcases hown.2 with ⟨rfl,rfl⟩ | ⟨gv,cap,cur,rfl,hbg,hg,hnc,hcm,hcs,htake⟩
  · by_cases hm:0<m
    · have hr2:=run_append_nil (P:=P) w t ty e i z ht hi hz a m c news hl hnews hm (by unfold maxLen at h63;omega) (by rw[hby];rw[Nat.zero_add] at hbytes;omega)
      rw[hr] at hr2
      obtain⟨_,rfl⟩:=Result.ok.inj hr2
      exact hb.drew.alloc _ _
    · obtain rfl:m=0:=by omega
      have hf:=run_firstCells_some (P:=P) w i.size 0 a 0 c [] (by simp) (by simp)
      have hr2:(Builtin.append_ #[t,t] ty #[.slice none 0 0,.slice (some a) 0 c]).run P w=.ok (.slice none 0 0) w:=by
        simp[Builtin.append_,run_underlying ht,sizeOf,typeInfo,hi,Builtin.lenOf,hf]
      rw[hr] at hr2
      obtain⟨_,rfl⟩:=Result.ok.inj hr2
      exact hb
  · by_cases hroom:n+m≤cap
    · have hr2:=run_append_room (P:=P) w t ty e i ht hi gv n cap cur hg a m c news hl hnews h1 hroom (by rw[hcs,hl,←Nat.add_mul];exact Nat.mul_le_mul_right _ hroom)
      rw[hr] at hr2
      obtain⟨_,rfl⟩:=Result.ok.inj hr2
      exact hb.setRow _ _
    · have hfit:Builtin.nextslicecap (n+m) cap*i.bytes≤281474976710656:=by
        have:=nextslicecap_le (need:=n+m) (old:=cap) (by omega)
        have h2:=Nat.mul_le_mul_right i.bytes this
        rw[hby] at h2⊢
        have h3:(2* (n+m))*bytes=2* ((n+m)*bytes):=by rw[Nat.mul_assoc]
        omega
      have holds: ∀j u,xs[j]? =some u→w.cell? ((⟨gv,0,none⟩:Addr).add j)=some u:=hown.cells (g:=gv) rfl
      have hr2:=run_append_grow (P:=P) w t ty e i z ht hi hz ⟨gv,0,none⟩ n cap xs hown.1 holds a m c news hl hnews (by omega) (by unfold maxLen at h63;omega) hfit
      rw[hr] at hr2
      obtain⟨_,rfl⟩:=Result.ok.inj hr2
      exact hb.drew.alloc _ _
section
variable {α:Type} {E:El α} {e:TypeId} {base:Nat} {Y:Nat→Prop} {w w':World} {v:Value} {xs:List α}
theorem GRow.appsN {P:Program}{t:TypeId}{bytes:Nat}(I:Inf P t e E.sz bytes)(h:GRow E e base Y w v xs)(ty:TypeId){A:Option Addr}{c:Nat}{ys:List α}
    (hl:Lst E (Fr Y w.heap.size v.ownBlock) w A ys) (hn:(xs.length+ys.length)*bytes≤140737488355328) (hm:xs.length+ys.length≤maxLen) {v':Value} (hr:(Builtin.append_ #[t,t] ty #[v,.slice A ys.length c]).run P w=.ok v' w') {b:Nat} (hb:Nf b w):Nf b w':=by
  obtain⟨cs,ho,ha⟩:=h
  obtain⟨i,z,hi,hz,hsize,hby,hzs⟩:=I.ex
  rcases A with _ |a
  · have hy:ys=[]:=by
      rcases Nat.eq_zero_or_pos ys.length with h0 |h0
      · exact List.eq_nil_of_length_eq_zero h0
      · obtain⟨_,_,h,_⟩:=hl h0;cases h
    subst hy
    have hr2:(Builtin.append_ #[t,t] ty #[v,.slice none ([]:List α).length c]).run P w=.ok v w:=by
      rcases ho.2 with ⟨rfl,h0⟩ | ⟨g,cap,cur,rfl,_,_,hnc,_⟩
      · simp[Builtin.append_,run_underlying I.ht,sizeOf,typeInfo,hi,Builtin.lenOf,Builtin.firstCells]
      · simp[Builtin.append_,run_underlying I.ht,sizeOf,typeInfo,hi,Builtin.lenOf,Builtin.firstCells,hnc,storeCells]
    rw[hr] at hr2
    obtain⟨_,rfl⟩:=Result.ok.inj hr2
    exact hb
  · have hns: ∃news,All E (Fr Y w.heap.size v.ownBlock) w ys news∧∀j u,news[j]? =some u→w.cell? (a.add j)=some u:=by
      by_cases h0:0<ys.length
      · obtain⟨g,off,ea,hg,_,hc⟩:=hl h0
        cases ea
        obtain⟨news,k1,k2⟩:=flat_cells (E:=E) ys hc
        exact⟨news,k1,fun j u hu=>by rw[Addr.add_lit];exact k2 j u hu⟩
      · have hy:ys=[]:=List.eq_nil_of_length_eq_zero (by omega)
        subst hy
        exact⟨[],rfl,fun j u hu=>by simp at hu⟩
    obtain⟨news,k1,k2⟩:=hns
    exact app_nf (P:=P) w base t ty e i z E.sz bytes I.ht hi hz hsize hby hzs E.pos v xs.length cs ho a ys.length c news k1.len k2 k1.cells hm hn hr hb
end
end Go.Proofs.Ytclmaglkekkigaa.nmc
