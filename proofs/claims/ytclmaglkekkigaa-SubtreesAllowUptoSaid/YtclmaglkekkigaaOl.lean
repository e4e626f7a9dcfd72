/- Two spaces side by side, and writing into the one. -/
import Derived.Test.YtclmaglkekkigaaOk
set_option maxRecDepth 100000
set_option maxHeartbeats 3200000
set_option linter.unusedVariables false
set_option linter.unusedSimpArgs false
namespace Go.Proofs.Ytclmaglkekkigaa.nmc
open Go.RowKit Go.Proofs.Ytclmaglkekkigaa.tlvc Go.Proofs.Ytclmaglkekkigaa.ndc Go.Proofs.Ytclmaglkekkigaa.txc Go.Proofs.Ytclmaglkekkigaa.txm
theorem SpC.on {S S':Nat→Prop}{w w':World}{P:List (List (List At))}{X:List (List At)}{c0 c1:Value}(h:SpC S w P X c0 c1)(hs:w.heap.size≤w'.heap.size)(hk: ∀g,S g→g<w.heap.size→w'.heap[g]? =w.heap[g]?)(hS: ∀g,S g→g<w.heap.size→S' g):SpC S' w' P X c0 c1:=⟨h.permit.on hs hk hS,h.exclude.on hs hk hS⟩
theorem SpC.bound {S:Nat→Prop}{w:World}{P:List (List (List At))}{X:List (List At)}{c0 c1:Value}(h:SpC S w P X c0 c1):SpC (fun g=>S g∧g<w.heap.size) w P X c0 c1:=h.on (Nat.le_refl _) (fun _ _ _=>rfl) (fun g hg hl=>⟨hg,hl⟩)
theorem SpC.mono {S S':Nat→Prop}{w:World}{P:List (List (List At))}{X:List (List At)}{c0 c1:Value}(h:SpC S w P X c0 c1)(hS: ∀g,S g→S' g):SpC S' w P X c0 c1:=h.on (Nat.le_refl _) (fun _ _ _=>rfl) (fun g hg _=>hS g hg)
/-- The program's space a lies in the blocks lo to hi, the document's b elsewhere; the boxes of s, a and b. -/
structure St (w:World) (lo hi ab bb:Nat) (s0 s1 a0 a1 b0 b1:Value) (P:List (List (List At))) (X:List (List At)) (W:World):Prop where
  bel:Below w.heap.size w W
  low:w.heap.size+1≤lo
  mid:lo≤hi
  hia:hi≤ab
  hib:hi≤bb
  sbox:W.heap[w.heap.size]? =some (.cells #[s0,s1] 25)
  abox:W.heap[ab]? =some (.cells #[a0,a1] 25)
  bbox:W.heap[bb]? =some (.cells #[b0,b1] 25)
  a:SpC (fun g=>lo≤g∧g<hi) W P X a0 a1
  b:SpC (fun g=>g<w.heap.size∨hi≤g) W P X b0 b1
  nf: ∀g i,lo≤g→g<hi→W.frozen? ⟨g,i,none⟩=false
theorem St.call {w:World}{lo hi ab bb:Nat}{s0 s1 a0 a1 b0 b1:Value}{P:List (List (List At))}{X:List (List At)}{W W':World}(h:St w lo hi ab bb s0 s1 a0 a1 b0 b1 P X W)(hb:Below W.heap.size W W'):St w lo hi ab bb s0 s1 a0 a1 b0 b1 P X W':=by
  have z1:=(Array.getElem?_eq_some_iff.1 h.sbox).1
  have z2:=(Array.getElem?_eq_some_iff.1 h.abox).1
  have z3:=(Array.getElem?_eq_some_iff.1 h.bbox).1
  have hha:=h.hia
  exact⟨below_then h.bel hb (Nat.le_refl _),h.low,h.mid,h.hia,h.hib,(hb.block _ z1).trans h.sbox,(hb.block _ z2).trans h.abox,(hb.block _ z3).trans h.bbox,h.a.below hb,h.b.below hb,fun g i h1 h2=>by rw[World.frozen?_of_block (a:=⟨g,i,none⟩) (hb.block g (by omega))];exact h.nf g i h1 h2⟩
/-- What may have come of a world of which texts in the blocks lo to hi were written to. -/
structure Scr (lo hi:Nat) (W W':World):Prop where
  os:W'.os=W.os
  tape:W'.tape=W.tape
  output:W'.output=W.output
  size:W'.heap.size=W.heap.size
  out: ∀g,¬(lo≤g∧g<hi)→W'.heap[g]? =W.heap[g]?
  sli: ∀(p:Addr) (A:Option Addr) (l c:Nat),W.cell? p=some (.slice A l c)→W'.cell? p=some (.slice A l c)
  str: ∀(p:Addr) (s:ByteArray),W.cell? p=some (.string s)→∃t,W'.cell? p=some (.string t)
  fro: ∀p,W'.frozen? p=W.frozen? p
theorem Scr.refl (lo hi:Nat)(W:World):Scr lo hi W W:=⟨rfl,rfl,rfl,rfl,fun _ _=>rfl,fun _ _ _ _ h=>h,fun _ s h=>⟨s,h⟩,fun _=>rfl⟩
theorem Scr.set {lo hi:Nat}{W W':World}(h:Scr lo hi W W'){g i:Nat}{s t:ByteArray}(hc:W'.cell? ⟨g,i,none⟩=some (.string s))(h1:lo≤g)(h2:g<hi):Scr lo hi W (W'.setCell ⟨g,i,none⟩ (.string t)) where
  os:=h.os
  tape:=h.tape
  output:=h.output
  size:=by rw[set_size];exact h.size
  out:=fun k hk=>(set_heap_other _ _ _ _ _ (fun e=>hk (by subst e;exact⟨h1,h2⟩))).trans (h.out k hk)
  sli:=fun p A l c hp=>by
    have:=h.sli p A l c hp
    by_cases e:(⟨g,i,none⟩:Addr)=p
    · subst e;rw[hc] at this;cases this
    · rw[World.cell?_setCell_other _ _ _ _ e];exact this
  str:=fun p u hp=>by
    obtain⟨u',hu⟩:=h.str p u hp
    by_cases e:(⟨g,i,none⟩:Addr)=p
    · subst e;exact⟨t,World.cell?_setCell_same _ _ _ hc⟩
    · exact⟨u',by rw[World.cell?_setCell_other _ _ _ _ e];exact hu⟩
  fro:=fun p=>(World.frozen?_setCell _ _ _ _).trans (h.fro p)
/-- The i-th name of the list that is written to. -/
theorem Scr.nm {lo hi:Nat}{W W':World}(h:Scr lo hi W W'){X:List (List At)}{B:Option Addr}{m d:Nat}(hX:LsC nmE (fun g=>lo≤g∧g<hi) W X (.slice B m d)){i:Nat}(hi':i<m): ∃(hx:i<X.length) (g off:Nat) (A':Option Addr) (l' k':Nat),B=some ⟨g,off,none⟩∧W'.cell? ⟨g,off+i,none⟩=some (.slice A' l' k')∧LsC atE (fun g=>lo≤g∧g<hi) W X[i] (.slice A' l' k'):=by
  obtain⟨hx,g,off,A',l',k',e,_,hc,hl⟩:=at_ls hX hi'
  exact⟨hx,g,off,A',l',k',e,h.sli _ _ _ _ hc,hl⟩
/-- The k-th part of such a name. -/
theorem Scr.at_ {lo hi:Nat}{W W':World}(h:Scr lo hi W W')(hn: ∀g i,lo≤g→g<hi→W.frozen? ⟨g,i,none⟩=false){n:List At}{A:Option Addr}{l c:Nat}(hX:LsC atE (fun g=>lo≤g∧g<hi) W n (.slice A l c)){k:Nat}(hk:k<l): ∃(g off:Nat) (t:ByteArray),A=some ⟨g,off,none⟩∧W'.cell? ⟨g,off+k*2+1,none⟩=some (.string t)∧W'.frozen? ⟨g,off+k*2+1,none⟩=false∧lo≤g∧g<hi:=by
  obtain⟨h1,h2,h3,h4⟩:=ls4 hX
  obtain⟨g,off,e,hg,hS,hc⟩:=h4 (by omega)
  obtain⟨cs,k1,c0,c1,rfl,O,lo',co,rfl,rfl,_⟩:=hc k (by omega)
  have hc1:=k1 1 _ rfl
  rw[show atE.sz=2 from rfl] at hc1
  obtain⟨t,ht⟩:=h.str _ _ hc1
  exact⟨g,off,t,e,ht,(h.fro _).trans (hn g _ hS.1 hS.2),hS.1,hS.2⟩
theorem St.scr {w:World}{lo hi ab bb:Nat}{s0 s1 a0 a1 b0 b1:Value}{P:List (List (List At))}{X:List (List At)}{W W':World}(h:St w lo hi ab bb s0 s1 a0 a1 b0 b1 P X W)(hs:Scr lo hi W W'):Below w.heap.size w W'∧W'.heap[w.heap.size]? =some (.cells #[s0,s1] 25)∧W'.heap[ab]? =some (.cells #[a0,a1] 25)∧W'.heap[bb]? =some (.cells #[b0,b1] 25)∧SpC (fun g=>g<w.heap.size∨hi≤g) W' P X b0 b1:=by
  have h1:=h.low
  have h2:=h.mid
  have h3:=h.hia
  have h4:=h.hib
  refine⟨⟨hs.os.trans h.bel.os,hs.tape.trans h.bel.tape,hs.output.trans h.bel.output,by rw[hs.size];exact h.bel.size,fun k hk=>(hs.out k (by omega)).trans (h.bel.block k hk)⟩,(hs.out _ (by omega)).trans h.sbox,(hs.out _ (by omega)).trans h.abox,(hs.out _ (by omega)).trans h.bbox,h.b.on (by rw[hs.size];exact Nat.le_refl _) (fun g hg _=>hs.out g (by omega)) (fun g hg _=>hg)⟩
end Go.Proofs.Ytclmaglkekkigaa.nmc
