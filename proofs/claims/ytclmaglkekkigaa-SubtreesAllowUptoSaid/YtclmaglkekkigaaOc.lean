/- Spaces told alike; great. -/
import Derived.Test.YtclmaglkekkigaaOb
set_option maxRecDepth 100000
set_option maxHeartbeats 1600000
set_option linter.unusedVariables false
set_option linter.unusedSimpArgs false
namespace Go.Proofs.Ytclmaglkekkigaa.nmc
open Go.RowKit Go.Proofs.Ytclmaglkekkigaa.tlvc Go.Proofs.Ytclmaglkekkigaa.ndc Go.Proofs.Ytclmaglkekkigaa.txc Go.Proofs.Ytclmaglkekkigaa.txm
theorem list_self {S T:Nat→Prop}{L:List (List At)}{A B:Option Addr}{l c l' d:Nat}{w:World}(ha:LsC nmE S w L (.slice A l c))(hb:LsC nmE T w L (.slice B l' d)):
    Calls Try.prog 16 #[.slice A l c,.slice B l' d] w fun e w'=>e=.returned (.bool true)∧Below w.heap.size w w':=by
  obtain rfl:l=l':=by rw[←(ls4 ha).1,←(ls4 hb).1]
  have h9:c≤9223372036854775807:=by have:=(ls4 ha).2.2.1;unfold maxLen at this;omega
  have h8:l≤c:=(ls4 ha).2.1
  have HX:=hd_ (And.intro ha hb)
  clear ha hb
  go_enter Try.func16,Try.ntmps16
  go_wp2_with fail
  go_loopg [5] (l+1) (fun gk s5 wx=>∃(k:Nat),s5=.int .i64 k∧k≤l∧l - k<gk∧Hid (Below w.heap.size w wx))
  case atStart=>exact⟨0,rfl,by omega,by omega,hd_ (Below.refl _ _)⟩
  case round=>
    obtain⟨k,rfl,hk,hgk,HI⟩:=hrel
    have hB:=HI.out
    by_cases hlt:k<l
    · have hltz:(k:Int)< (l:Int):=by omega
      obtain⟨gk',rfl⟩: ∃g',gk=g'+1:=⟨gk - 1,by omega⟩
      have HN:=hd_ (And.intro (show k+1≤l from hlt) (show l - (k+1)<gk' by omega))
      obtain⟨ha,hb⟩:=HX.out
      obtain⟨hx,g,off,A1,l1,c1,rfl,hg,e0,h1⟩:=at_ls (ha.below hB) hlt
      obtain⟨_,g2,off2,A2,l2,c2,rfl,hg2,e2,h2⟩:=at_ls (hb.below hB) hlt
      have HC:=fun(d:Nat) (os:Array Obj)=>ralike_ls (h1.below (below_regrown wr d os)) (h2.below (below_regrown wr d os))
      rw[eqW_list.2 rfl] at HC
      have HC:=hd_ HC
      have HB:=hd_ hB
      have g0:=fun(d:Nat) (os:Array Obj)=>cell_on (below_regrown wr d os) e0
      have g1:=fun(d:Nat) (os:Array Obj)=>cell_on (below_regrown wr d os) e2
      have i1:(0:Int)≤(k:Int):=by omega
      clear hB ha hb h1 h2 HI hg hg2 hx e0 e2 hgk
      go_wp2_with fail
      try dsimp only
      refine wp_region_quiet_below (by kernel_rfl) (by kernel_rfl) ?_
      repeat (go_big_quiet_step ((go_at_call 24;refine Calls.regrown_of (HC.out _ _))))
      refine wpQuiet_nil ?_
      intro _ hw'
      obtain⟨⟨nq,osq⟩,hw''⟩:=hw'
      subst hw''
      have HB2:=hd_ (below_then HB.out (below_regrown wr nq osq) (Nat.le_refl _))
      clear g0 g1 HC HB
      go_wp2
      go_roundg gk'
      case measure=>omega
      case rel=>exact⟨k+1,by go_num,HN.out.1,HN.out.2,HB2⟩
    · obtain rfl:l=k:=by omega
      have hltz: ¬(l:Int)< (l:Int):=by omega
      have HB:=hd_ hB
      clear hB HI
      go_wp2
      go_ret
      exact⟨rfl,HB.out⟩
theorem same_self13 {S T:Nat→Prop}{P:List (List (List At))}{X:List (List At)}{A B A' B':Option Addr}{l c m d l' c' m' d':Nat}{w:World}(ha:SpC S w P X (.slice A l c) (.slice B m d))(hb:SpC T w P X (.slice A' l' c') (.slice B' m' d')):
    Calls Try.prog 11 #[.agg #[.slice A l c,.slice B m d],.agg #[.slice A' l' c',.slice B' m' d']] w fun e w'=>e=.returned (.bool true)∧Below w.heap.size w w':=by
  obtain rfl:l=l':=by rw[←(ls4 ha.permit).1,←(ls4 hb.permit).1]
  have h9:c≤9223372036854775807:=by have:=(ls4 ha.permit).2.2.1;unfold maxLen at this;omega
  have h8:l≤c:=(ls4 ha.permit).2.1
  obtain⟨W0,hW0⟩:=nm_ ((w.alloc (.cells #[.slice A l c,.slice B m d] 25)).alloc (.cells #[.slice A' l c',.slice B' m' d'] 25))
  have hb0:Below w.heap.size w W0:=by rw[←hW0];exact(below_new _ _).alloc (by simp) _
  have p0:W0.heap[w.heap.size]? =some (.cells #[.slice A l c,.slice B m d] 25):=by rw[←hW0,heap_old_ _ _ (by simp only[size_new];omega)];exact heap_new_ _ _
  have p1:W0.heap[w.heap.size+1]? =some (.cells #[.slice A' l c',.slice B' m' d'] 25):=by rw[←hW0];exact heap_is (by simp)
  have hz:w.heap.size+1<W0.heap.size:=(Array.getElem?_eq_some_iff.1 p1).1
  have e0:W0.cell? ⟨w.heap.size,0,none⟩=some (.slice A l c):=(Lib.cell_of_heap p0 _).trans rfl
  have e1:W0.cell? ⟨w.heap.size,1,none⟩=some (.slice B m d):=(Lib.cell_of_heap p0 _).trans rfl
  have e2:W0.cell? ⟨w.heap.size+1,0,none⟩=some (.slice A' l c'):=(Lib.cell_of_heap p1 _).trans rfl
  have e3:W0.cell? ⟨w.heap.size+1,1,none⟩=some (.slice B' m' d'):=(Lib.cell_of_heap p1 _).trans rfl
  have HC:=hd_ (list_self (ha.exclude.below hb0) (hb.exclude.below hb0))
  have HX:=hd_ (And.intro hb0 (And.intro ha (And.intro hb (And.intro p0 (And.intro p1 hz)))))
  have hne:((l:Int) !=(l:Int))=false:=by simp
  have hne2:(l !=l)=false:=by simp
  clear hb0 p0 p1 hz ha hb
  go_enter Try.func11,Try.ntmps11
  go_wp2_with fail
  refine HC.out.mono ?_
  rintro e W1 ⟨rfl,hb1⟩
  have HB1:=hd_ hb1
  obtain⟨hb0,ha,hb,p0,p1,hz⟩:=HX.out
  clear e0 e1 e2 e3 HX
  have q0:=(hb1.block _ (by omega)).trans p0
  have q1:=(hb1.block _ (by omega)).trans p1
  have HX:=hd_ (And.intro (below_then hb0 hb1 (Nat.le_refl _)) (And.intro ha (And.intro hb (And.intro q0 (And.intro q1 (show w.heap.size+1<W1.heap.size from Nat.lt_of_lt_of_le hz hb1.size))))))
  have e0:W1.cell? ⟨w.heap.size,0,none⟩=some (.slice A l c):=(Lib.cell_of_heap q0 _).trans rfl
  clear hb1 HC hb0 ha hb p0 p1 hz q0 q1 HB1 hW0
  go_wp2_with fail
  go_loopg [5] (l+1) (fun gk s5 wx=>∃(k:Nat),s5=.int .i64 k∧k≤l∧l - k<gk∧Hid (Below W1.heap.size W1 wx))
  case atStart=>exact⟨0,rfl,by omega,by omega,hd_ (Below.refl _ _)⟩
  case round=>
    obtain⟨k,rfl,hk,hgk,HI⟩:=hrel
    clear e0
    obtain⟨hb0,ha,hb,p0,p1,hz⟩:=HX.out
    have hB:=HI.out
    have hB2:=hb0.trans (hB.mono (by omega))
    have q0:=(hB.block _ (by omega)).trans p0
    have q1:=(hB.block _ (by omega)).trans p1
    have e0:wr.cell? ⟨w.heap.size,0,none⟩=some (.slice A l c):=(Lib.cell_of_heap q0 _).trans rfl
    have e1:wr.cell? ⟨w.heap.size+1,0,none⟩=some (.slice A' l c'):=(Lib.cell_of_heap q1 _).trans rfl
    by_cases hlt:k<l
    · have hltz:(k:Int)< (l:Int):=by omega
      obtain⟨gk',rfl⟩: ∃g',gk=g'+1:=⟨gk - 1,by omega⟩
      have HN:=hd_ (And.intro (show k+1≤l from hlt) (show l - (k+1)<gk' by omega))
      obtain⟨hx,g,off,A1,l1,c1,rfl,hg,e2,h1⟩:=at_ls (ha.permit.below hB2) hlt
      obtain⟨_,g2,off2,A2,l2,c2,rfl,hg2,e3,h2⟩:=at_ls (hb.permit.below hB2) hlt
      have HC:=hd_ (fun(d:Nat) (os:Array Obj)=>list_self (h1.below (below_regrown wr d os)) (h2.below (below_regrown wr d os)))
      have HB:=hd_ hB
      have g0:=fun(d:Nat) (os:Array Obj)=>cell_on (below_regrown wr d os) e0
      have g1:=fun(d:Nat) (os:Array Obj)=>cell_on (below_regrown wr d os) e1
      have g2:=fun(d:Nat) (os:Array Obj)=>cell_on (below_regrown wr d os) e2
      have g3:=fun(d:Nat) (os:Array Obj)=>cell_on (below_regrown wr d os) e3
      have i1:(0:Int)≤(k:Int):=by omega
      clear hB hB2 hb0 ha hb p0 p1 hz q0 q1 h1 h2 HI hg hg2 hx e2 e3 hgk
      go_wp2_with fail
      try dsimp only
      clear e0 e1
      refine wp_region_quiet_below (by kernel_rfl) (by kernel_rfl) ?_
      repeat (go_big_quiet_step ((go_at_call 16;refine Calls.regrown_of (HC.out _ _))))
      refine wpQuiet_nil ?_
      intro _ hw'
      obtain⟨⟨nq,osq⟩,hw''⟩:=hw'
      subst hw''
      have HB2:=hd_ (And.intro (below_then HB.out (below_regrown wr nq osq) (Nat.le_refl _)) trivial)
      clear g0 g1 g2 g3 HC HB
      go_wp2
      go_roundg gk'
      case measure=>omega
      case rel=>exact⟨k+1,by go_num,HN.out.1,HN.out.2,hd_ HB2.out.1⟩
    · obtain rfl:l=k:=by omega
      have hltz: ¬(l:Int)< (l:Int):=by omega
      have HB:=hd_ hB2
      clear hB hB2 HI hb0 ha hb p0 p1 hz q0 q1
      go_wp2
      go_ret
      exact⟨rfl,HB.out⟩
def GrP (w:World)(e:Ending)(w':World):Prop:=(∃b:Bool,e=.returned (.bool b))∧Below w.heap.size w w'
theorem great_any {S:Nat→Prop}{P:List (List (List At))}{X:List (List At)}{A B:Option Addr}{l c m d:Nat}{w:World}(hS:SpC S w P X (.slice A l c) (.slice B m d))(hm:m≤1048576):
    Calls Try.prog 8 #[.agg #[.slice A l c,.slice B m d]] w (GrP w):=by
  have h9:c≤9223372036854775807:=by have:=(ls4 hS.permit).2.2.1;unfold maxLen at this;omega
  have h8:l≤c:=(ls4 hS.permit).2.1
  obtain⟨W0,hW0⟩:=nm_ (w.alloc (.cells #[.slice A l c,.slice B m d] 25))
  have hb0:Below w.heap.size w W0:=by rw[←hW0];exact below_new _ _
  have p0:W0.heap[w.heap.size]? =some (.cells #[.slice A l c,.slice B m d] 25):=by rw[←hW0];exact heap_new_ _ _
  have e0:W0.cell? ⟨w.heap.size,0,none⟩=some (.slice A l c):=(Lib.cell_of_heap p0 _).trans rfl
  have e1:W0.cell? ⟨w.heap.size,1,none⟩=some (.slice B m d):=(Lib.cell_of_heap p0 _).trans rfl
  have HX:=hd_ (And.intro (hS.below hb0) hb0)
  clear hb0 p0 hS
  go_enter Try.func8,Try.ntmps8
  go_wp2_with fail
  clear e1
  go_loopg [3,4] (l+1) (fun gk s3 s4 wx=>∃(n k:Nat),s3=.int .i64 n∧s4=.int .i64 k∧n≤1048576∧k≤l∧l - k<gk∧wx=W0)
  case atStart=>exact⟨m,0,rfl,rfl,hm,by omega,by omega,rfl⟩
  case round=>
    obtain⟨n,k,rfl,rfl,hn,hk,hgk,rfl⟩:=hrel
    by_cases hlt:k<l
    · have hltz:(k:Int)< (l:Int):=by omega
      by_cases hle:n≤1000
      · have hlez:(n:Int)≤1000:=by omega
        obtain⟨gk',rfl⟩: ∃g',gk=g'+1:=⟨gk - 1,by omega⟩
        have HN:=hd_ (And.intro (show k+1≤l from hlt) (show l - (k+1)<gk' by omega))
        obtain⟨hx,g,off,A1,l1,c1,rfl,hg,e2,h1⟩:=at_ls HX.out.1.permit hlt
        clear hx hg h1
        go_wp2
        go_roundg gk'
        case measure=>omega
        case rel=>exact⟨n+1+min l1 1000,k+1,by congr 1;omega,by go_num,by omega,HN.out.1,HN.out.2,rfl⟩
      · have hlez: ¬(n:Int)≤1000:=by omega
        go_wp2
        go_ret
        exact⟨⟨_,rfl⟩,HX.out.2⟩
    · obtain rfl:l=k:=by omega
      have hltz: ¬(l:Int)< (l:Int):=by omega
      go_wp2
      go_ret
      exact⟨⟨_,rfl⟩,HX.out.2⟩
end Go.Proofs.Ytclmaglkekkigaa.nmc
