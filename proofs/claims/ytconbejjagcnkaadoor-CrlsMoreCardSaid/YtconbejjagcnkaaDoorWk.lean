/- What a longer list has; serials put behind all others. -/
import Derived.Test.YtconbejjagcnkaaDoorWj
set_option maxRecDepth 100000
set_option maxHeartbeats 16000000
set_option linter.unusedVariables false
set_option linter.unusedSimpArgs false
namespace Go.Proofs.YtconbejjagcnkaaDoor.nmc
open Go.RowKit tlvc tlvd ndc txc txm intc intm vtc
theorem inL_app: ∀(l:List Int) (y x:Int),inL (l++[y]) x=(inL l x || decide (x=y))
 | [],y,x=>by show(decide (x=y) || false)=(false || decide (x=y));rw[Bool.or_false,Bool.false_or]
 |z::l,y,x=>by
  show(decide (x=z) || inL (l++[y]) x)=((decide (x=z) || inL l x) || decide (x=y))
  rw[inL_app l y x,Bool.or_assoc]
theorem inL_step {xs:List Int}{k:Nat}{x:Int}(hk:k<xs.length):inL (xs.take (k+1)) x=(inL (xs.take k) x || decide (x=xs.getD k 0)):=by
 rw[List.take_add_one,List.getD_eq_getElem?_getD,List.getElem?_eq_getElem hk]
 exact inL_app _ _ _
theorem own_shape1 {w:World}{base:Nat}{e:TypeId}{sz:Nat}{v:Value}{n:Nat}{cs:List Value}(h:w.ownsRow base e sz v (n+1) cs): ∃g c,v=.slice (some ⟨g,0,none⟩) (n+1) c∧base≤g∧n+1≤c∧c≤maxLen:=by
 rcases h.2 with ⟨_,h0⟩ | ⟨g,cap,cur,e1,hb,_,h1,h2,_⟩
 ·omega
 ·exact⟨g,cap,e1,hb,h1,h2⟩
theorem app_copy (w:World)(A:Option Addr)(n c:Nat)(xs:List Int)(x:Int)(hx:Ins w A n xs)(hxi:I64 x)(hn:n≤1000):
 ∃v1 w1 g2 c2 w2,(Builtin.append_ #[24,24] 24 #[.slice (some ⟨w.heap.size,0,none⟩) 0 0,.slice A n c]).run Tryd.prog (w.alloc (.cells #[] 2))=.ok v1 w1∧
  (Builtin.append_ #[24,24] 24 #[v1,.slice (some ⟨w1.heap.size,0,none⟩) 1 1]).run Tryd.prog (w1.alloc (.cells #[.int .i64 x] 2))=.ok (.slice (some ⟨g2,0,none⟩) (n+1) c2) w2∧
  Below w.heap.size w w1∧Below w.heap.size w w2∧InC (fun g=>w.heap.size≤g) w2 (xs++[x]) (.slice (some ⟨g2,0,none⟩) (n+1) c2):=by
 obtain⟨i0,hi,hz0,hz1,hz2⟩:=info_parts Tryd.infoI64
 have hal:Below w.heap.size w (w.alloc (.cells #[] 2)):=below_new _ _
 obtain⟨v1,w1,r1,o1,g1,_⟩:=run_iapp (P:=Tryd.prog) (w.alloc (.cells #[] 2)) w.heap.size 24 24 2 i0 (.int .i64 0) Tryd.underlying24 hi hz0 hz1 hz2 rfl (.slice (some ⟨w.heap.size,0,none⟩) 0 0) 0 []
  (World.ownsRow_lit (base:=w.heap.size) (e:=2) (size:=1) w #[] 0 (lr_ _) (Nat.zero_le _) rfl) A n c xs (hx.below hal) (by omega) (by simp)
 have hb1:Below w.heap.size w w1:=hal.grown g1 hal.size (fun j hj=>by cases hj;exact lr_ _)
 have hbn:=below_new w1 (.cells #[.int .i64 x] 2)
 have o1':=own_keep o1 (fun g _ hg=>hbn.block g hg)
 have hins:Ins (w1.alloc (.cells #[.int .i64 x] 2)) (some ⟨w1.heap.size,0,none⟩) 1 [x]:=⟨rfl,fun y hy=>by simp only[List.mem_singleton] at hy;subst hy;exact hxi,fun _=>⟨_,0,rfl,by simp,fun j hj=>by
  obtain rfl:j=0:=by omega
  exact(ch_ (heap_new_ w1 (.cells #[.int .i64 x] 2)) 0).trans rfl⟩⟩
 obtain⟨v2,w2,r2,o2,g2,_⟩:=run_iapp (P:=Tryd.prog) (w1.alloc (.cells #[.int .i64 x] 2)) w.heap.size 24 24 2 i0 (.int .i64 0) Tryd.underlying24 hi hz0 hz1 hz2 rfl v1 (0+n) _ o1' (some ⟨w1.heap.size,0,none⟩) 1 1 [x] hins (by omega) (by have:=hb1.size;simp;omega)
 have hb2:Below w.heap.size w w2:=(below_then hb1 hbn (lr_ _)).grown g2 (by have:=hb1.size;simp;omega) (fun j hj=>(o1'.lt j hj).1)
 have e2:[]++ivals xs++ivals [x]=ivals (xs++[x]):=by simp[ivals]
 rw[Nat.zero_add,e2] at o2
 obtain⟨g3,c3,rfl,h1,h2,h3⟩:=own_shape1 o2
 exact⟨v1,w1,g3,c3,w2,r1,r2,hb1,hb2,⟨_,n+1,c3,rfl,h2,h3,Ins.own o2 (hx.fit.app (fun y hy=>by simp only[List.mem_singleton] at hy;subst hy;exact hxi)),fun _ g off sp e=>by cases e;exact h1⟩⟩
end Go.Proofs.YtconbejjagcnkaaDoor.nmc
