/- The certificate of bytes: the program's Get. -/
import Derived.Test.YtjanfogifehhmaaGreatDoorQg
set_option maxRecDepth 100000
set_option maxHeartbeats 1600000
set_option linter.unusedVariables false
set_option linter.unusedSimpArgs false
namespace Go.Proofs.YtjanfogifehhmaaGreatDoor.nmc
open Go.RowKit tlvc tlvd ndc txc txm intc intm vtc
theorem readL_ne {rec:Nat→RR}{ys:List Int}(hbad: ∀next a e,rec next=.bad a e→e≠0): ∀(f next:Nat) (r:RK) (a e:Int),readL rec ys f next r=.bad a e→e≠0
 |0,next,r,a,e,h=>by unfold readL at h;cases h
 |f+1,next,r,a,e,h=>by
  unfold readL at h
  by_cases hlt:next<ys.length
  ·rw[if_pos hlt] at h
   cases hr:rec next with
   |bad a' e'=>rw[hr] at h;cases h;exact hbad _ _ _ hr
   |ok n nx=>rw[hr] at h;exact readL_ne hbad f nx _ a e h
  ·rw[if_neg hlt] at h;cases h
theorem readF_ne: ∀(d outer:Nat) (xs:List Int) (at_:Nat) (a e:Int),readF d outer xs at_=.bad a e→e≠0
 |0,outer,xs,at_,a,e,h=>by unfold readF at h;cases h;decide
 |d+1,outer,xs,at_,a,e,h=>by
  unfold readF at h
  simp only at h
  split at h
  ·rename_i h0;cases h;exact h0
  ·split at h
   ·rename_i h0;cases h;exact h0
   ·split at h
    ·cases h
    ·split at h
     ·rename_i hr;cases h;exact readL_ne (fun next a e h=>readF_ne d (outer+1) _ next a e h) _ _ _ _ _ hr
     ·split at h
      ·cases h;decide
      ·cases h
theorem readAll_ne {xs:List Int}{a e:Int}(h:readAllF xs=.bad a e):e≠0:=by
 unfold readAllF at h
 cases hr:readF 33 0 xs 0 with
 |bad a' e'=>rw[hr] at h;cases h;exact readF_ne _ _ _ _ _ _ hr
 |ok m k=>
  rw[hr] at h
  simp only at h
  split at h
  ·cases h;decide
  ·cases h
theorem putC_ne {c:Ce}{e:Int}(h:putC c=.no e):e≠0:=by
 unfold putC at h
 split at h
 ·exact errW_ne _ _ _ _ (lr_ _) h
 ·cases h;decide
def aftC (c:Ce)(b:List Int)(r:WR):Option Ce:=match r with
 | .ok x=>if x=b then some c else none
 | .no _=>none
theorem getC_put {n:Nd}{b:List Int}{c:Ce}(h:toldC n=some c):getC n b=aftC c b (putC c):=by
 unfold getC
 rw[h]
 show(if rightC c=true∧okB (writeF (nodeC c) 0) b=true then some c else none)=_
 unfold putC
 cases rightC c
 ·rfl
 ·rw[if_pos (show true=true from rfl)]
  cases writeF (nodeC c) 0 with
  |no e=>rfl
  |ok x=>unfold aftC okB;simp
theorem finz {w W:World}{bc0 bc1 bc2 bc3 bc4 bc5 bx0 bx1 bx2 bx3 bx4 bx5 bx6 bx7 bx8 bc6 c0 c1 c2 c3 c4 c5 x0 x1 x2 x3 x4 x5 x6 x7 x8 c6:Value}(hb:Below w.heap.size w W)(hx:W.heap[w.heap.size]? =some (.cells #[bc0,bc1,bc2,bc3,bc4,bc5,bx0,bx1,bx2,bx3,bx4,bx5,bx6,bx7,bx8,bc6] 32)): ∀W',setN W w.heap.size 0 [c0,c1,c2,c3,c4,c5,x0,x1,x2,x3,x4,x5,x6,x7,x8,c6]=W'→W'.heap[w.heap.size]? =some (.cells #[c0,c1,c2,c3,c4,c5,x0,x1,x2,x3,x4,x5,x6,x7,x8,c6] 32)∧Below w.heap.size w W'∧(∀g,g≠w.heap.size→W'.heap[g]? =W.heap[g]?)∧W'.heap.size=W.heap.size:=fun W' e=>by
 subst e
 refine⟨?_,setN_below (lr_ _) _ _ _ hb,fun g hg=>setN_other hg _ _ _,setN_size _ _ _ _⟩
 rw[setN_box _ _ _ _ hx]
 simp only[putN,List.setIfInBounds_toArray,List.set_cons_zero,List.set_cons_succ]
def RGet (w:World)(r:Option (Option Ce))(er:Int)(e:Ending)(w':World):Prop:=
 Below w.heap.size w w'∧match r with
 |none=>e=.returned (.tuple #[.agg #[.int .i64 0,.slice none 0 0,.int .i64 0,.int .i64 0,.slice none 0 0,.int .i64 0,.bool false,.bool false,.int .i64 0,.int .u16 0,.slice none 0 0,.slice none 0 0,.slice none 0 0,.slice none 0 0,.slice none 0 0,.int .i64 0],.int .i64 er])
 |some none=>e=.returned (.tuple #[.agg #[.int .i64 0,.slice none 0 0,.int .i64 0,.int .i64 0,.slice none 0 0,.int .i64 0,.bool false,.bool false,.int .i64 0,.int .u16 0,.slice none 0 0,.slice none 0 0,.slice none 0 0,.slice none 0 0,.slice none 0 0,.int .i64 0],.int .i64 111])
 |some (some c)=>∃c0 c1 c2 c3 c4 c5 x0 x1 x2 x3 x4 x5 x6 x7 x8 c6,e=.returned (.tuple #[.agg #[c0,c1,c2,c3,c4,c5,x0,x1,x2,x3,x4,x5,x6,x7,x8,c6],.int .i64 0])∧CeC (fun g=>w.heap.size≤g) w' c c0 c1 c2 c3 c4 c5 x0 x1 x2 x3 x4 x5 x6 x7 x8 c6
def getRes (xs:List Int):Option (Option Ce) × Int:=match readAllF xs with
 | .bad _ er=>(none,er)
 | .ok nd _=>(some (getC nd xs),0)
theorem ret14 {t:Array Value}{W:World}{g:Nat}{v0 v1 v2 v3 v4 v5 x0 x1 x2 x3 x4 x5 x6 x7 x8 v7:Value}{T:TypeId}{e:Value}(h2:t.getD 2 undef=.pointer (some ⟨g,0,none⟩))(h3:t.getD 3 undef=e)(hq:W.heap[g]? =some (.cells #[v0,v1,v2,v3,v4,v5,x0,x1,x2,x3,x4,x5,x6,x7,x8,v7] T)):Sem.run Tryz.prog (results Tryz.f14 t) W=.ok (.tuple #[.agg #[v0,v1,v2,v3,v4,v5,x0,x1,x2,x3,x4,x5,x6,x7,x8,v7],e]) W:=by
 rw[Array.getD_eq_getD_getElem?] at h2 h3
 obtain⟨⟨r0,r1,r2,r3,r4,r5⟩,⟨r6,r7,r8,r9,r10,r11,r12,r13,r14⟩,r15⟩:=box16 hq
 simp[results,Tryz.results14,go_sem,h2,h3,r0,r1,r2,r3,r4,r5,r6,r7,r8,r9,r10,r11,r12,r13,r14,r15]
def stepC (xs:List Int):Nat:=match readAllF xs with
 | .bad _ _=>0
 | .ok nd _=>match toldC nd with
  |none=>1
  |some c=>match putC c with
   | .no _=>2
   | .ok x=>if x=xs then 4 else 3
end Go.Proofs.YtjanfogifehhmaaGreatDoor.nmc
