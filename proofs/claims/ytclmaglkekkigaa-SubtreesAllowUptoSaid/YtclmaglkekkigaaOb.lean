/- Which names may be had: the program's Allowed, whole; the document's. -/
import Derived.Test.YtclmaglkekkigaaOa
set_option maxRecDepth 100000
set_option maxHeartbeats 1600000
set_option linter.unusedVariables false
set_option linter.unusedSimpArgs false
namespace Go.Proofs.Ytclmaglkekkigaa.nmc
open Go.RowKit Go.Proofs.Ytclmaglkekkigaa.tlvc Go.Proofs.Ytclmaglkekkigaa.ndc Go.Proofs.Ytclmaglkekkigaa.txc Go.Proofs.Ytclmaglkekkigaa.txm
abbrev nlE:El (List (List At)):=lsE nmE
/-- Do all lists have one that it begins with? -/
def allB (n:List At)(P:List (List (List At))):Bool:=P.all fun l=>amongB unP n l
theorem allB_step {n:List At}{P:List (List (List At))}{i:Nat}{R:Bool}(hi:i<P.length)(h:allB n (P.drop i)=R):(amongB unP n P[i] && allB n (P.drop (i+1)))=R:=by
  rw[List.drop_eq_getElem_cons hi] at h
  exact h
theorem allB_end {n:List At}{P:List (List (List At))}{i:Nat}{R:Bool}(hi: ¬i<P.length)(h:allB n (P.drop i)=R):R=true:=by
  rw[List.drop_eq_nil_of_le (by omega)] at h
  exact h.symm
theorem idxL_any {S T:Nat→Prop}{n:List At}{P:List (List (List At))}{N A:Option Addr}{ln cn l c q q2:Nat}{w:World}(hn:LsC atE S w n (.slice N ln cn))(hL:LsC nlE T w P (.slice A l c))(zn:Tx n)(zL: ∀L∈P,∀a∈L,Tx a)(hq:w.heap[q]? =some (.cells #[.slice N ln cn] 27))(hq2:w.heap[q2]? =some (.cells #[aboveV q] 42)):
    Calls Try.prog 27 #[.slice A l c,forbidV q2] w fun e w'=>∃r:Int,e=.returned (.int .i64 r)∧Hid (decide (0≤r)=(!allB n P)∧Below w.heap.size w w'):=by
  have h9:c≤9223372036854775807:=by have:=(ls4 hL).2.2.1;unfold maxLen at this;omega
  have h8:l≤c:=(ls4 hL).2.1
  obtain⟨R,hR⟩:=nm_ (allB n P)
  rw[hR]
  have HR:=hd_ (show allB n (P.drop 0)=R by rw[List.drop_zero];exact hR)
  have HX:=hd_ (And.intro hn (And.intro hL (And.intro zn (And.intro zL (And.intro hq hq2)))))
  clear hn hL zn zL hq hq2 hR
  go_enter Try.func27,Try.ntmps27
  go_wp2_with fail
  go_loopg [8] (l+1) (fun gk s8 wx=>∃(k:Nat),s8=.int .i64 k∧k≤l∧l - k<gk∧Hid (allB n (P.drop k)=R∧Below w.heap.size w wx))
  case atStart=>exact⟨0,rfl,by omega,by omega,hd_ ⟨HR.out,Below.refl _ _⟩⟩
  case round=>
    obtain⟨k,rfl,hk,hgk,HI⟩:=hrel
    clear HR
    have hB:=HI.out.2
    by_cases hlt:k<l
    · have hltz:(k:Int)< (l:Int):=by omega
      obtain⟨gk',rfl⟩: ∃g',gk=g'+1:=⟨gk - 1,by omega⟩
      have HN:=hd_ (And.intro (show k+1≤l from hlt) (show l - (k+1)<gk' by omega))
      obtain⟨hn,hL,zn,zL,hq,hq2⟩:=HX.out
      obtain⟨hx,g,off,A1,l1,c1,rfl,hg,e0,h1⟩:=at_ls (hL.below hB) hlt
      have HC:=hd_ (forbid_any (hn.below hB) h1 zn (zL _ (List.getElem_mem hx)) ((hB.block q (Array.getElem?_eq_some_iff.1 hq).1).trans hq) ((hB.block q2 (Array.getElem?_eq_some_iff.1 hq2).1).trans hq2))
      have hs:=allB_step hx HI.out.1
      obtain⟨x,hxx⟩:=nm_ (amongB unP n P[k])
      rw[hxx] at HC hs
      have HS:=hd_ hs
      have HB:=hd_ hB
      clear hB hn hL zn zL hq hq2 h1 hs hxx HI hg hx
      go_wp2_with fail
      refine HC.out.mono ?_
      rintro e w' ⟨rfl,hb⟩
      have HB2:=hd_ (below_then HB.out hb (Nat.le_refl _))
      clear hb HC e0 HB
      cases x with
      |false=>
       go_wp2
       go_ret
       exact⟨k,rfl,hd_ ⟨by rw[←HS.out,Bool.false_and];exact decide_eq_true (by omega),HB2.out⟩⟩
      |true=>
       go_wp2
       go_roundg gk'
       case measure=>omega
       case rel=>exact⟨k+1,by go_num,HN.out.1,HN.out.2,hd_ ⟨by rw[←HS.out,Bool.true_and],HB2.out⟩⟩
    · obtain rfl:l=k:=by omega
      have hltz: ¬(l:Int)< (l:Int):=by omega
      have HT:=hd_ (show R=true from allB_end (by rw[(ls4 HX.out.2.1).1];omega) HI.out.1)
      have HB:=hd_ hB
      clear hB HI
      go_wp2
      go_ret
      exact⟨-1,rfl,hd_ ⟨by rw[HT.out];rfl,HB.out⟩⟩
theorem conL_any {S T:Nat→Prop}{n:List At}{P:List (List (List At))}{N A:Option Addr}{ln cn l c q q2:Nat}{w:World}(hn:LsC atE S w n (.slice N ln cn))(hL:LsC nlE T w P (.slice A l c))(zn:Tx n)(zL: ∀L∈P,∀a∈L,Tx a)(hq:w.heap[q]? =some (.cells #[.slice N ln cn] 27))(hq2:w.heap[q2]? =some (.cells #[aboveV q] 42)):
    Calls Try.prog 21 #[.slice A l c,forbidV q2] w fun e w'=>e=.returned (.bool (!allB n P))∧Below w.heap.size w w':=by
  have HI:=hd_ (idxL_any hn hL zn zL hq hq2)
  obtain⟨R,hR⟩:=nm_ (!allB n P)
  rw[hR] at HI⊢
  clear hn hL zn zL hq hq2 hR
  go_enter Try.func21,Try.ntmps21
  go_wp2_with fail
  refine HI.out.mono ?_
  rintro e w' ⟨r,rfl,HO⟩
  clear HI
  go_wp2
  go_ret
  exact⟨by rw[←HO.out.1];rfl,HO.out.2⟩
/-- No text of a space is too long. -/
def TxS (P:List (List (List At)))(X:List (List At)):Prop:=(∀L∈P,∀a∈L,Tx a)∧∀a∈X,Tx a
theorem allowed_any {S T:Nat→Prop}{n:List At}{P:List (List (List At))}{X:List (List At)}{N A B:Option Addr}{ln cn l c m d:Nat}{w:World}(hS:SpC T w P X (.slice A l c) (.slice B m d))(hn:LsC atE S w n (.slice N ln cn))(zn:Tx n)(zS:TxS P X):
    Calls Try.prog 12 #[.agg #[.slice A l c,.slice B m d],.slice N ln cn] w fun e w'=>e=.returned (.bool (allowedB unP P X n))∧Below w.heap.size w w':=by
  have hmf: ∀(fn:Fn) (first cap:Array Value) (w:World),(Instr.makeFunc fn first cap).run Try.prog w=.ok (.func fn first cap) w:=fun _ _ _ _=>rfl
  obtain⟨W0,hW0⟩:=nm_ (((w.alloc (.cells #[.slice A l c,.slice B m d] 25)).alloc (.cells #[.slice N ln cn] 27)).alloc (.cells #[.nilFunc] 42))
  have hb0:Below w.heap.size w W0:=by rw[←hW0];exact((below_new _ _).alloc (by simp) _).alloc (by simp;omega) _
  have p0:W0.heap[w.heap.size]? =some (.cells #[.slice A l c,.slice B m d] 25):=by rw[←hW0,heap_old_ _ _ (by simp only[size_new];omega),heap_old_ _ _ (by simp only[size_new];omega)];exact heap_new_ _ _
  have p1:W0.heap[w.heap.size+1]? =some (.cells #[.slice N ln cn] 27):=by rw[←hW0,heap_old_ _ _ (by simp only[size_new];omega)];exact heap_is (by simp)
  have p2:W0.heap[w.heap.size+1+1]? =some (.cells #[.nilFunc] 42):=by rw[←hW0];exact heap_is (by simp)
  have z0:W0.cell? ⟨w.heap.size+1+1,0,none⟩=some .nilFunc:=(Lib.cell_of_heap p2 _).trans rfl
  have f0:W0.frozen? ⟨w.heap.size+1+1,0,none⟩=false:=Lib.frozen_of_heap p2 _
  obtain⟨W1,hW1⟩:=nm_ (W0.setCell ⟨w.heap.size+1+1,0,none⟩ (aboveV (w.heap.size+1)))
  have hb1:Below w.heap.size w W1:=by rw[←hW1];exact hb0.setCell (p:=⟨w.heap.size+1+1,0,none⟩) (by show w.heap.size≤w.heap.size+1+1;omega) _
  have q0:W1.heap[w.heap.size]? =some (.cells #[.slice A l c,.slice B m d] 25):=by rw[←hW1,set_heap_other _ _ _ _ _ (by omega)];exact p0
  have q1:W1.heap[w.heap.size+1]? =some (.cells #[.slice N ln cn] 27):=by rw[←hW1,set_heap_other _ _ _ _ _ (by omega)];exact p1
  have q2:W1.heap[w.heap.size+1+1]? =some (.cells #[aboveV (w.heap.size+1)] 42):=by rw[←hW1];exact set_heap _ _ 0 _ _ _ _ p2
  have e0:W1.cell? ⟨w.heap.size,0,none⟩=some (.slice A l c):=(Lib.cell_of_heap q0 _).trans rfl
  have e2:W1.cell? ⟨w.heap.size+1+1,0,none⟩=some (aboveV (w.heap.size+1)):=(Lib.cell_of_heap q2 _).trans rfl
  have HC1:=hd_ (conL_any (hn.below hb1) (hS.permit.below hb1) zn zS.1 q1 q2)
  have HX:=hd_ (And.intro hb1 (And.intro hn (And.intro hS (And.intro zn (And.intro zS (And.intro q0 (And.intro q1 q2)))))))
  have hal:allowedB unP P X n=(allB n P && !amongB unP n X):=rfl
  obtain⟨R,hR⟩:=nm_ (allB n P)
  obtain⟨Q,hQ⟩:=nm_ (amongB unP n X)
  rw[hal,hR,hQ]
  rw[hR] at HC1
  have HQ:=hd_ hQ
  clear hb0 hb1 p0 p1 p2 q0 q1 q2 hS hn zn zS hal hR hQ
  go_enter Try.func12,Try.ntmps12
  go_wp2_with fail
  refine HC1.out.mono ?_
  rintro e w' ⟨rfl,hb⟩
  cases R with
  |false=>
   have HB:=hd_ (below_then HX.out.1 hb (Nat.le_refl _))
   clear hb HC1 hW0 hW1 z0 f0 e0 e2
   go_wp2
   go_ret
   exact⟨rfl,HB.out⟩
  |true=>
   obtain⟨hb1,hn,hS,zn,zS,q0,q1,q2⟩:=HX.out
   have hbb:=below_then hb1 hb (Nat.le_refl _)
   have z1:=(Array.getElem?_eq_some_iff.1 q2).1
   have r0:=(hb.block _ (by omega)).trans q0
   have r1:=(hb.block _ (by omega)).trans q1
   have r2:=(hb.block _ (by omega)).trans q2
   have s0:w'.cell? ⟨w.heap.size,1,none⟩=some (.slice B m d):=(Lib.cell_of_heap r0 _).trans rfl
   have s2:w'.cell? ⟨w.heap.size+1+1,0,none⟩=some (aboveV (w.heap.size+1)):=(Lib.cell_of_heap r2 _).trans rfl
   have HC2:=hd_ (conN_any (hn.below hbb) (hS.exclude.below hbb) zn zS.2 r1)
   rw[HQ.out] at HC2
   have HB:=hd_ hbb
   clear hb hbb HC1 hW0 hW1 z0 f0 e0 e2 hb1 hn hS zn zS q0 q1 q2 z1 r0 r1 r2 HX HQ
   go_wp2_with fail
   refine HC2.out.mono ?_
   rintro e w2 ⟨rfl,hb⟩
   have HB2:=hd_ (below_then HB.out hb (Nat.le_refl _))
   clear hb HB HC2 s0 s2
   cases Q
   all_goals
     go_wp2
     go_ret
     exact⟨rfl,HB2.out⟩
/-! ### The document's -/
theorem among_any {S T:Nat→Prop}{n:List At}{L:List (List At)}{N A:Option Addr}{ln cn l c:Nat}{w:World}(hn:LsC atE S w n (.slice N ln cn))(hL:LsC nmE T w L (.slice A l c))(zn:Tx n)(zL: ∀a∈L,Tx a):
    Calls Try.prog 22 #[.slice N ln cn,.slice A l c] w fun e w'=>e=.returned (.bool (amongB unP n L))∧Below w.heap.size w w':=by
  have h9:c≤9223372036854775807:=by have:=(ls4 hL).2.2.1;unfold maxLen at this;omega
  have h8:l≤c:=(ls4 hL).2.1
  obtain⟨R,hR⟩:=nm_ (amongB unP n L)
  rw[hR]
  have HR:=hd_ (show amongB unP n (L.drop 0)=R by rw[List.drop_zero];exact hR)
  have HX:=hd_ (And.intro hn (And.intro hL (And.intro zn zL)))
  clear hn hL zn zL hR
  go_enter Try.func22,Try.ntmps22
  go_wp2_with fail
  go_loopg [5] (l+1) (fun gk s5 wx=>∃(k:Nat),s5=.int .i64 k∧k≤l∧l - k<gk∧Hid (amongB unP n (L.drop k)=R∧Below w.heap.size w wx))
  case atStart=>exact⟨0,rfl,by omega,by omega,hd_ ⟨HR.out,Below.refl _ _⟩⟩
  case round=>
    obtain⟨k,rfl,hk,hgk,HI⟩:=hrel
    clear HR
    have hB:=HI.out.2
    by_cases hlt:k<l
    · have hltz:(k:Int)< (l:Int):=by omega
      obtain⟨gk',rfl⟩: ∃g',gk=g'+1:=⟨gk - 1,by omega⟩
      have HN:=hd_ (And.intro (show k+1≤l from hlt) (show l - (k+1)<gk' by omega))
      obtain⟨hn,hL,zn,zL⟩:=HX.out
      obtain⟨hx,g,off,A1,l1,c1,rfl,hg,e0,h1⟩:=at_ls (hL.below hB) hlt
      have HC:=hd_ (runder_ls (hn.below hB) h1 zn (zL _ (List.getElem_mem hx)))
      have hs:=among_step unP hx HI.out.1
      obtain⟨x,hxx⟩:=nm_ (unP n L[k])
      rw[hxx] at HC hs
      have HS:=hd_ hs
      have HB:=hd_ hB
      clear hB hn hL zn zL h1 hs hxx HI hg hx
      go_wp2_with fail
      refine HC.out.mono ?_
      rintro e w' ⟨rfl,hb⟩
      have HB2:=hd_ (below_then HB.out hb (Nat.le_refl _))
      clear hb HC e0 HB
      cases x with
      |true=>
       go_wp2
       go_ret
       exact⟨show Ending.returned (.bool true)=.returned (.bool R) by rw[←HS.out,Bool.true_or],HB2.out⟩
      |false=>
       go_wp2
       go_roundg gk'
       case measure=>omega
       case rel=>exact⟨k+1,by go_num,HN.out.1,HN.out.2,hd_ ⟨by rw[←HS.out,Bool.false_or],HB2.out⟩⟩
    · obtain rfl:l=k:=by omega
      have hltz: ¬(l:Int)< (l:Int):=by omega
      have HT:=hd_ (show R=false from among_end unP (by rw[(ls4 HX.out.2.1).1];omega) HI.out.1)
      have HB:=hd_ hB
      clear hB HI
      go_wp2
      go_ret
      exact⟨show Ending.returned (.bool false)=.returned (.bool R) by rw[HT.out],HB.out⟩
theorem rallowed_any {S T:Nat→Prop}{n:List At}{P:List (List (List At))}{X:List (List At)}{N A B:Option Addr}{ln cn l c m d:Nat}{w:World}(hS:SpC T w P X (.slice A l c) (.slice B m d))(hn:LsC atE S w n (.slice N ln cn))(zn:Tx n)(zS:TxS P X):
    Calls Try.prog 13 #[.agg #[.slice A l c,.slice B m d],.slice N ln cn] w fun e w'=>e=.returned (.bool (allowedB unP P X n))∧Below w.heap.size w w':=by
  have h9:c≤9223372036854775807:=by have:=(ls4 hS.permit).2.2.1;unfold maxLen at this;omega
  have h8:l≤c:=(ls4 hS.permit).2.1
  obtain⟨W0,hW0⟩:=nm_ (w.alloc (.cells #[.slice A l c,.slice B m d] 25))
  have hb0:Below w.heap.size w W0:=by rw[←hW0];exact below_new _ _
  have p0:W0.heap[w.heap.size]? =some (.cells #[.slice A l c,.slice B m d] 25):=by rw[←hW0];exact heap_new_ _ _
  have hz:w.heap.size<W0.heap.size:=(Array.getElem?_eq_some_iff.1 p0).1
  have hal:allowedB unP P X n=(allB n P && !amongB unP n X):=rfl
  obtain⟨R,hR⟩:=nm_ (allB n P)
  obtain⟨Q,hQ⟩:=nm_ (amongB unP n X)
  rw[hal,hR,hQ]
  have HQ:=hd_ hQ
  have HR:=hd_ (show allB n (P.drop 0)=R by rw[List.drop_zero];exact hR)
  have HX:=hd_ (And.intro hb0 (And.intro hn (And.intro hS (And.intro zn (And.intro zS (And.intro p0 hz))))))
  have e0:W0.cell? ⟨w.heap.size,0,none⟩=some (.slice A l c):=(Lib.cell_of_heap p0 _).trans rfl
  clear hb0 p0 hz hS hn zn zS hal hR hQ
  go_enter Try.func13,Try.ntmps13
  go_wp2_with fail
  go_outline
  go_loopg [5] (l+1) (fun gk s5 wx=>∃(k:Nat),s5=.int .i64 k∧k≤l∧l - k<gk∧Hid (allB n (P.drop k)=R∧Below W0.heap.size W0 wx))
  case atStart=>exact⟨0,rfl,by omega,by omega,hd_ ⟨HR.out,Below.refl _ _⟩⟩
  case round=>
    obtain⟨k,rfl,hk,hgk,HI⟩:=hrel
    clear HR e0
    obtain⟨hb0,hn,hS,zn,zS,p0,hz⟩:=HX.out
    have hB:=HI.out.2
    have hB2:=hb0.trans (hB.mono (by omega))
    have q0:=(hB.block _ hz).trans p0
    have e0:wr.cell? ⟨w.heap.size,0,none⟩=some (.slice A l c):=(Lib.cell_of_heap q0 _).trans rfl
    have e1:wr.cell? ⟨w.heap.size,1,none⟩=some (.slice B m d):=(Lib.cell_of_heap q0 _).trans rfl
    by_cases hlt:k<l
    · have hltz:(k:Int)< (l:Int):=by omega
      obtain⟨gk',rfl⟩: ∃g',gk=g'+1:=⟨gk - 1,by omega⟩
      have HN:=hd_ (And.intro (show k+1≤l from hlt) (show l - (k+1)<gk' by omega))
      obtain⟨hx,g,off,A1,l1,c1,rfl,hg,e2,h1⟩:=at_ls (hS.permit.below hB2) hlt
      have HC:=hd_ (among_any (hn.below hB2) h1 zn (zS.1 _ (List.getElem_mem hx)))
      have hs:=allB_step hx HI.out.1
      obtain⟨x,hxx⟩:=nm_ (amongB unP n P[k])
      rw[hxx] at HC hs
      have HS:=hd_ hs
      have HB:=hd_ (And.intro hB hB2)
      clear hB hB2 hb0 hn hS zn zS p0 hz q0 h1 hs hxx HI hg hx
      go_wp2_with fail
      refine HC.out.mono ?_
      rintro e w' ⟨rfl,hb⟩
      have HB2:=hd_ (And.intro (below_then HB.out.1 hb (Nat.le_refl _)) (below_then HB.out.2 hb (Nat.le_refl _)))
      clear hb HC e0 e1 e2 HB
      cases x with
      |false=>
       go_wp2
       go_ret
       exact⟨show Ending.returned (.bool false)=.returned (.bool (R && !Q)) by rw[←HS.out,Bool.false_and,Bool.false_and],HB2.out.2⟩
      |true=>
       go_wp2
       go_roundg gk'
       case measure=>omega
       case rel=>exact⟨k+1,by go_num,HN.out.1,HN.out.2,hd_ ⟨by rw[←HS.out,Bool.true_and],HB2.out.1⟩⟩
    · obtain rfl:l=k:=by omega
      have hltz: ¬(l:Int)< (l:Int):=by omega
      have hT:R=true:=allB_end (by rw[(ls4 hS.permit).1];omega) HI.out.1
      subst hT
      have HC:=hd_ (among_any (hn.below hB2) (hS.exclude.below hB2) zn zS.2)
      rw[HQ.out] at HC
      have HB:=hd_ hB2
      clear hB hB2 hb0 hn hS zn zS p0 hz q0 HI HX HQ
      go_wp2_with fail
      refine HC.out.mono ?_
      rintro e w' ⟨rfl,hb⟩
      have HB2:=hd_ (below_then HB.out hb (Nat.le_refl _))
      clear hb HC HB e0 e1
      cases Q
      all_goals
        go_wp2
        go_ret
        exact⟨rfl,HB2.out⟩
end Go.Proofs.Ytclmaglkekkigaa.nmc
