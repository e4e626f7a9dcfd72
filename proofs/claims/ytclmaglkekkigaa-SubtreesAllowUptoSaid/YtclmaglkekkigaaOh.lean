/- What begins with what; a name and what stands behind it; the live question. -/
import Derived.Test.YtclmaglkekkigaaOg
set_option maxRecDepth 100000
set_option maxHeartbeats 3200000
set_option linter.unusedVariables false
set_option linter.unusedSimpArgs false
namespace Go.Proofs.Ytclmaglkekkigaa.nmc
open Go.RowKit Go.Proofs.Ytclmaglkekkigaa.tlvc Go.Proofs.Ytclmaglkekkigaa.ndc Go.Proofs.Ytclmaglkekkigaa.txc Go.Proofs.Ytclmaglkekkigaa.txm
def keyA (a:At):List Int × List UInt8:=(a.oid,prepF a.text)
def keyL (l:List At):List (List Int × List UInt8):=l.map keyA
theorem eqA_key {a b:At}:eqA a b=true↔keyA a=keyA b:=by
  unfold eqA keyA
  rw[Bool.and_eq_true,decide_eq_true_eq,decide_eq_true_eq]
  simp
theorem eqP_key {a b:List At}:eqP eqA a b=true↔keyL a=keyL b:=by
  rw[eqP_iff]
  unfold keyL
  constructor
  · rintro⟨hl,h⟩
    exact List.ext_getElem (by simpa using hl) fun i h1 h2=>by
      rw[List.getElem_map,List.getElem_map]
      exact eqA_key.1 (h i (by simpa using h1) (by simpa using h2))
  · intro h
    have hl:a.length=b.length:=by simpa using congrArg List.length h
    refine⟨hl,fun i h1 h2=>eqA_key.2 ?_⟩
    have:=congrArg (fun l=>l[i]?) h
    simpa[List.getElem?_map,List.getElem?_eq_getElem h1,List.getElem?_eq_getElem h2] using this
theorem unP_key {a b:List At}:unP a b=true↔keyL b<+:keyL a:=by
  unfold unP
  rw[Bool.and_eq_true,decide_eq_true_eq,eqP_key]
  unfold keyL
  rw[List.map_take]
  constructor
  · rintro⟨hl,h⟩
    rw[←h]
    exact List.take_prefix _ _
  · intro h
    refine⟨by simpa using h.length_le,?_⟩
    have:=List.prefix_iff_eq_take.1 h
    rw[List.length_map] at this
    exact this.symm
theorem eqP_sym (a b:List At):eqP eqA a b=eqP eqA b a:=by
  rw[Bool.eq_iff_iff,eqP_key,eqP_key]
  exact eq_comm
theorem eqP_tr {a b c:List At}(h:eqP eqA a b=true)(k:eqP eqA b c=true):eqP eqA a c=true:=eqP_key.2 ((eqP_key.1 h).trans (eqP_key.1 k))
theorem unP_tr {a b c:List At}(h:unP a b=true)(k:unP b c=true):unP a c=true:=unP_key.2 ((unP_key.1 k).trans (unP_key.1 h))
theorem unP_more (a b:List At):unP (a++b) a=true:=unP_key.2 (by unfold keyL;rw[List.map_append];exact List.prefix_append _ _)
theorem unP_self (a:List At):unP a a=true:=unP_key.2 (List.prefix_refl _)
theorem unP_below {n p:List At}(m:List At)(h:unP n p=true):unP (n++m) p=true:=unP_tr (unP_more n m) h
theorem GRow.empty {α:Type}{E:El α}{e:TypeId}{base:Nat}{Y:Nat→Prop}{w:World}{g:Nat}(hb:base≤g)(h:w.heap[g]? =some (.cells #[] e)):GRow E e base Y w (.slice (some ⟨g,0,none⟩) 0 0) ([]:List α):=
  ⟨[],⟨by simp,.inr ⟨g,0,#[],rfl,hb,h,Nat.le_refl _,Nat.zero_le _,by simp,by simp⟩⟩,rfl⟩
theorem more_run (W:World)(A A':Option Addr)(n c m d:Nat)(xs ys:List At)(hl:xs.length=n)(hl2:ys.length=m)(hL:Lst atE (fun g=>g<W.heap.size) W A xs)(hL2:Lst atE (fun g=>g<W.heap.size) W A' ys)(hn:n≤1048576)(hm:m≤1048576):
    ∃V1 c1 w1 V2 c2 w2,(Builtin.append_ #[27,27] 27 #[.slice (some ⟨W.heap.size,0,none⟩) 0 0,.slice A n c]).run Try.prog (W.alloc (.cells #[] 35))=.ok (.slice V1 n c1) w1∧
     (Builtin.append_ #[27,27] 27 #[.slice V1 n c1,.slice A' m d]).run Try.prog w1=.ok (.slice V2 (n+m) c2) w2∧Lst atE (fun _=>True) w2 V2 (xs++ys)∧n+m≤c2∧c2≤maxLen∧Below W.heap.size W w2:=by
  subst hl hl2
  have hb0:=below_new W (.cells #[] 35)
  have hz:=size_new W (.cells #[] 35)
  have h0:GRow atE 35 W.heap.size (fun _=>True) (W.alloc (.cells #[] 35)) (.slice (some ⟨W.heap.size,0,none⟩) 0 0) []:=GRow.empty (Nat.le_refl _) (heap_new_ _ _)
  obtain⟨v1,w1,hr1,hg1,hgr1⟩:=h0.apps Try.infA (fun _ _=>trivial) 27 (A:=A) (c:=c) (ys:=xs) ((hL.below hb0).on (Nat.le_refl _) (fun _ _ _=>rfl) (fun g hg _=>⟨trivial,by rw[hz];omega,fun e=>absurd (show g=W.heap.size by simpa[Value.ownBlock] using e) (by omega)⟩)) (by simp;omega) (by simp;unfold maxLen;omega) hb0.size
  obtain⟨V1,c1,rfl,_,_⟩:=hg1.shape
  have hB1:Below W.heap.size W w1:=hb0.grown hgr1 hb0.size (fun j hj=>by cases hj;exact Nat.le_refl _)
  have hown:=hg1.lt
  obtain⟨v2,w2,hr2,hg2,hgr2⟩:=hg1.apps Try.infA (fun _ _=>trivial) 27 (A:=A') (c:=d) (ys:=ys) ((hL2.below hB1).on (Nat.le_refl _) (fun _ _ _=>rfl) (fun g hg hl=>⟨trivial,hl,fun e=>by have:=(hown g e.symm).1;omega⟩)) (by simp;omega) (by simp;unfold maxLen;omega) hB1.size
  obtain⟨V2,c2,rfl,h3,h4⟩:=hg2.shape
  obtain⟨V3,c3,e3,_,_,h5⟩:=hg2.lst (fun _ _=>trivial)
  simp only[Value.slice.injEq] at e3
  obtain⟨rfl,_,rfl⟩:=e3
  simp only[List.nil_append] at hr1 hr2 h3 h5
  rw[List.length_append] at h3
  refine⟨V1,c1,w1,V2,c2,w2,hr1,?_,h5,h3,h4,hB1.grown hgr2 hB1.size (fun j hj=>(hown j hj).1)⟩
  simpa using hr2
def an:List At:=[⟨[2,5,4,3],⟨#[97]⟩⟩]
theorem an_sm:SmN an:=by
  refine⟨by decide,fun x hx=>?_⟩
  have hx:x=⟨[2,5,4,3],⟨#[97]⟩⟩:=by simpa[an] using hx
  subst hx
  exact⟨by show 1≤1048576;omega,by show 4≤1048576;omega⟩
theorem nil_sm:SmN []:=⟨Nat.zero_le _,fun x hx=>by simp at hx⟩
theorem nil_smL:SmL []:=⟨Nat.zero_le _,fun x hx=>by simp at hx⟩
theorem nil_smP:SmP []:=⟨Nat.zero_le _,fun x hx=>by simp at hx⟩
theorem one_smL {a:List At}(h:SmN a):SmL [a]:=⟨by show 1≤1048576;omega,fun x hx=>by rw[List.mem_singleton.1 hx];exact h⟩
theorem an_yes:allowedB unP [[an]] [] an=true:=by
  unfold allowedB amongB
  simp only[List.all_cons,List.all_nil,List.any_cons,List.any_nil,unP_self]
  rfl
theorem an_no:allowedB unP [[an]] [] []=false:=by
  unfold allowedB amongB
  simp only[List.all_cons,List.all_nil,List.any_cons,List.any_nil]
  rw[show unP [] an=false from rfl]
  rfl
theorem an_tx:TxS [[an]] []:=⟨fun L hL a ha=>by
  rw[List.mem_singleton.1 hL] at ha
  rw[List.mem_singleton.1 ha];exact an_sm.tx,fun a ha=>by simp at ha⟩
theorem smP_tx {P:List (List (List At))}{X:List (List At)}(hP:SmP P)(hX:SmL X):TxS P X:=⟨fun L hL a ha=>((hP.2 L hL).2 a ha).tx,fun a ha=>(hX.2 a ha).tx⟩
theorem narrow_tx {P:List (List (List At))}{X p e:List (List At)}(hP:SmP P)(hX:SmL X)(hp:SmL p)(he:SmL e):TxS (narrowP P p) (X++e):=by
  refine⟨fun L hL a ha=>?_,fun a ha=>?_⟩
  · unfold narrowP at hL
    by_cases h0:p.length=0
    · rw[if_pos h0] at hL;exact((hP.2 L hL).2 a ha).tx
    · rw[if_neg h0] at hL
      rcases List.mem_append.1 hL with h |h
      · exact((hP.2 L h).2 a ha).tx
      · rw[List.mem_singleton.1 h] at ha;exact(hp.2 a ha).tx
  · rcases List.mem_append.1 ha with h |h
    · exact(hX.2 a h).tx
    · exact(he.2 a h).tx
theorem app_tx {a b:List At}(ha:SmN a)(hb:SmN b):Tx (a++b):=fun x hx=>(List.mem_append.1 hx).elim (ha.tx x) (hb.tx x)
/-- A name and what stands behind it, as append makes it. -/
theorem more_ls {S T:Nat→Prop}{W:World}{A A':Option Addr}{n c m d:Nat}{xs ys:List At}(hx:LsC atE S W xs (.slice A n c))(hy:LsC atE T W ys (.slice A' m d))(sx:SmN xs)(sy:SmN ys):
    ∃V1 c1 w1 V2 c2 w2,(Builtin.append_ #[27,27] 27 #[.slice (some ⟨W.heap.size,0,none⟩) 0 0,.slice A n c]).run Try.prog (W.alloc (.cells #[] 35))=.ok (.slice V1 n c1) w1∧
     (Builtin.append_ #[27,27] 27 #[.slice V1 n c1,.slice A' m d]).run Try.prog w1=.ok (.slice V2 (n+m) c2) w2∧LsC atE (fun _=>True) w2 (xs++ys) (.slice V2 (n+m) c2)∧Below W.heap.size W w2:=by
  obtain⟨h1,h2,h3,h4⟩:=ls4 hx
  obtain⟨k1,k2,k3,k4⟩:=ls4 hy
  obtain⟨V1,c1,w1,V2,c2,w2,r1,r2,r3,r4,r5,r6⟩:=more_run W A A' n c m d xs ys h1 k1 (h4.boundS.mono (fun g hg=>hg.2)) (k4.boundS.mono (fun g hg=>hg.2)) (by have:=sx.1;omega) (by have:=sy.1;omega)
  exact⟨V1,c1,w1,V2,c2,w2,r1,r2,⟨V2,c2,by rw[List.length_append,h1,k1],by rw[List.length_append,h1,k1];exact r4,r5,r3⟩,r6⟩
theorem one_ls {α:Type}{E:El α}{S:Nat→Prop}{w:World}{x:List α}{c0:Value}{g:Nat}{T:TypeId}(hx:LsC E S w x c0)(hg:w.heap[g]? =some (.cells #[c0] T))(hS:S g):LsC (lsE E) S w [x] (.slice (some ⟨g,0,none⟩) 1 1):=
  ⟨_,1,rfl,Nat.le_refl _,by unfold maxLen;decide,fun _=>⟨g,0,rfl,(Array.getElem?_eq_some_iff.1 hg).1,hS,fun i hi=>by
    have hi:i=0:=by simpa using hi
    subst hi
    exact⟨[c0],fun j u hu=>by rw[Nat.zero_mul,Nat.add_zero,Nat.zero_add,Lib.cell_of_heap hg];simpa using hu,c0,rfl,hx⟩⟩⟩
theorem head13_any (w:World):Calls Try.prog 7 #[] w fun e w'=>e=.returned (.bool true)∧Below w.heap.size w w':=by
  obtain⟨W1,hW1⟩:=nm_ ((w.alloc (.cells #[.int .i64 2,.int .i64 5,.int .i64 4,.int .i64 3] 3)).alloc (.cells #[.slice (some ⟨w.heap.size,0,none⟩) 4 4,.string ⟨#[97]⟩] 35))
  have hb1:Below w.heap.size w W1:=by rw[←hW1];exact(below_new _ _).alloc (by simp) _
  have hz1:W1.heap.size=w.heap.size+2:=by rw[←hW1];simp
  have hi:Ins W1 (some ⟨w.heap.size,0,none⟩) 4 [2,5,4,3]:=by rw[←hW1];exact(ins_lit (w:=w) [2,5,4,3] 3 _ (by intro x hx;simp at hx;omega)).below (below_new _ _)
  have p1:W1.heap[w.heap.size+1]? =some (.cells #[.slice (some ⟨w.heap.size,0,none⟩) 4 4,.string ⟨#[97]⟩] 35):=by rw[←hW1];exact heap_is (by simp)
  have hL:LsC atE (fun _=>True) W1 an (.slice (some ⟨w.heap.size+1,0,none⟩) 1 1):=⟨_,1,rfl,Nat.le_refl _,by unfold maxLen;decide,fun _=>⟨w.heap.size+1,0,rfl,by omega,trivial,fun i hi'=>by
    have hi':i=0:=by simpa[an] using hi'
    subst hi'
    refine⟨[.slice (some ⟨w.heap.size,0,none⟩) 4 4,.string ⟨#[97]⟩],fun j u hu=>?_,_,_,rfl,_,4,4,rfl,rfl,Nat.le_refl _,by unfold maxLen;decide,hi,fun _ _ _ _ _=>trivial,by show 1≤maxLen;unfold maxLen;decide⟩
    rw[Lib.cell_of_heap p1]
    match j,hu with
    |0,hu=>exact hu
    |1,hu=>exact hu
    |j+2,hu=>simp at hu⟩⟩
  obtain⟨W2,hW2⟩:=nm_ (W1.alloc (.cells #[.slice (some ⟨w.heap.size+1,0,none⟩) 1 1] 27))
  have hb2:=below_new W1 (.cells #[.slice (some ⟨w.heap.size+1,0,none⟩) 1 1] 27)
  have p2:=heap_new_ W1 (.cells #[.slice (some ⟨w.heap.size+1,0,none⟩) 1 1] 27)
  rw[hW2] at hb2 p2
  have hL2:=hL.below hb2
  have hO:=one_ls hL2 p2 trivial
  have hbw:=below_then hb1 hb2 (Nat.le_refl _)
  have HC:=hd_ (narrow_any (S:=fun _=>True) (U:=fun _=>True) (P:=[]) (X:=[]) (e:=[]) (w:=W2) ⟨LsC.nil,LsC.nil⟩ hO LsC.nil nil_smP nil_smL (one_smL an_sm) nil_smL)
  have HX:=hd_ (And.intro hbw hL2)
  clear hb1 hz1 hi p1 hL hb2 p2 hL2 hO hbw
  go_enter Try.func7,Try.ntmps7
  go_wp2_with fail
  refine HC.out.mono ?_
  rintro e w3 ⟨hb3,_,A3,l3,c3,B3,m3,d3,rfl,hS⟩
  have hB3:=below_then HX.out.1 hb3 (Nat.le_refl _)
  have hl3:l3=1:=(ls4 hS.permit).1.symm
  subst hl3
  obtain⟨W3,hW3⟩:=nm_ (w3.alloc (.cells #[.slice A3 1 c3,.slice B3 m3 d3] 25))
  have hb4:Below w3.heap.size w3 W3:=by rw[←hW3];exact below_new _ _
  have p3:W3.heap[w3.heap.size]? =some (.cells #[.slice A3 1 c3,.slice B3 m3 d3] 25):=by rw[←hW3];exact heap_new_ _ _
  have hB4:=below_then hB3 hb4 (Nat.le_refl _)
  have hS4:=hS.below hb4
  have e0:W3.cell? ⟨w3.heap.size,0,none⟩=some (.slice A3 1 c3):=(Lib.cell_of_heap p3 _).trans rfl
  have e1:W3.cell? ⟨w3.heap.size,1,none⟩=some (.slice B3 m3 d3):=(Lib.cell_of_heap p3 _).trans rfl
  have HC1:=allowed_any hS4 ((HX.out.2.below hb3).below hb4) an_sm.tx an_tx
  have he:allowedB unP (narrowP [] [an]) ([]++[]) an=true:=an_yes
  rw[he] at HC1
  have HC1:=hd_ HC1
  have HY:=hd_ (And.intro hB4 (And.intro hS4 p3))
  clear hb3 hS hB3 hb4 p3 hB4 hS4 he HC HX
  go_wp2_with fail
  refine HC1.out.mono ?_
  rintro e w4 ⟨rfl,hb4⟩
  have HC2:=allowed_any (n:=[]) (N:=none) (ln:=0) (cn:=0) (S:=fun _=>True) (HY.out.2.1.below hb4) LsC.nil nil_sm.tx an_tx
  have he:allowedB unP (narrowP [] [an]) ([]++[]) []=false:=an_no
  rw[he] at HC2
  have HC2:=hd_ HC2
  have p4:=(hb4.block _ (Array.getElem?_eq_some_iff.1 HY.out.2.2).1).trans HY.out.2.2
  have e2:w4.cell? ⟨w3.heap.size,0,none⟩=some (.slice A3 1 c3):=(Lib.cell_of_heap p4 _).trans rfl
  have e3:w4.cell? ⟨w3.heap.size,1,none⟩=some (.slice B3 m3 d3):=(Lib.cell_of_heap p4 _).trans rfl
  have HZ:=hd_ (below_then HY.out.1 hb4 (Nat.le_refl _))
  clear hb4 he HC1 HY p4 e0 e1 hW3
  go_wp2_with fail
  refine HC2.out.mono ?_
  rintro e w5 ⟨rfl,hb5⟩
  have HE:=hd_ (below_then HZ.out hb5 (Nat.le_refl _))
  clear hb5 HC2 HZ
  go_wp2
  go_ret
  exact⟨rfl,HE.out⟩
end Go.Proofs.Ytclmaglkekkigaa.nmc
