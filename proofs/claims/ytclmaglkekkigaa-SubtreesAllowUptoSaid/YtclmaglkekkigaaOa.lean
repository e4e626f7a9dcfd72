/- Which names may be had: the program's Allowed. -/
import Derived.Test.YtclmaglkekkigaaYf
import Derived.Test.YtclmaglkekkigaaUb
import Derived.Test.YtclmaglkekkigaaUa
import Derived.Laws.EntriesVeiled
set_option maxRecDepth 100000
set_option maxHeartbeats 1600000
set_option linter.unusedVariables false
set_option linter.unusedSimpArgs false
namespace Go.Proofs.Ytclmaglkekkigaa.nmc
open Go.RowKit Go.Proofs.Ytclmaglkekkigaa.tlvc Go.Proofs.Ytclmaglkekkigaa.ndc Go.Proofs.Ytclmaglkekkigaa.txc Go.Proofs.Ytclmaglkekkigaa.txm
theorem size_new (w:World)(o:Obj):(w.alloc o).heap.size=w.heap.size+1:=by simp
theorem nm_ {α:Sort _}(x:α): ∃y,x=y:=⟨_,rfl⟩
theorem hd_ {p:Prop}(h:p):Hid p:=Lib.hid h
theorem ls4 {α:Type}{E:El α}{S:Nat→Prop}{w:World}{xs:List α}{A:Option Addr}{l k:Nat}(h:LsC E S w xs (.slice A l k)):xs.length=l∧l≤k∧k≤maxLen∧Lst E S w A xs:=by
  obtain⟨A',c',e,h1,h2,h3⟩:=h
  simp only[Value.slice.injEq] at e
  obtain⟨rfl,rfl,rfl⟩:=e
  exact⟨rfl,h1,h2,h3⟩
theorem at_ls {α:Type}{E:El α}{S:Nat→Prop}{w:World}{xs:List (List α)}{A:Option Addr}{l k:Nat}(h:LsC (lsE E) S w xs (.slice A l k)){i:Nat}(hi:i<l): ∃(hx:i<xs.length) (g off:Nat) (A':Option Addr) (l' k':Nat),A=some ⟨g,off,none⟩∧g<w.heap.size∧w.cell? ⟨g,off+i,none⟩=some (.slice A' l' k')∧LsC E S w xs[i] (.slice A' l' k'):=by
  obtain⟨h1,h2,h3,h4⟩:=ls4 h
  have hx:i<xs.length:=by omega
  obtain⟨g,off,cs,e,hg,hc,c0,rfl,hh⟩:=h4.at i hx
  have hh':=hh
  obtain⟨A',c',e0,_⟩:=hh'
  have hc0:=hc 0 c0 rfl
  rw[show(lsE E).sz=1 from rfl,Nat.mul_one,Nat.add_zero,e0] at hc0
  rw[e0] at hh
  exact⟨hx,g,off,A',_,c',e,hg,hc0,hh⟩
/-- No text of a name is too long. -/
def Tx (a:List At):Prop:=∀x∈a,x.text.size≤8796093022208
theorem SmN.tx {a:List At}(h:SmN a):Tx a:=fun x hx=>Nat.le_trans (h.2 x hx).1 (by omega)
theorem under_ls {S T:Nat→Prop}{a b:List At}{A B:Option Addr}{n c m d:Nat}{w:World}(ha:LsC atE S w a (.slice A n c))(hb:LsC atE T w b (.slice B m d))(za:Tx a)(zb:Tx b):
    Calls Try.prog 18 #[.slice A n c,.slice B m d] w fun e w'=>e=.returned (.bool (unP a b))∧Below w.heap.size w w':=by
  obtain⟨h1,h2,h3,h4⟩:=ls4 ha
  obtain⟨k1,k2,k3,k4⟩:=ls4 hb
  exact under_any _ _ A B n c m d a b w h1 k1 h4 k4 h2 h3 k2 k3 za zb
theorem runder_ls {S T:Nat→Prop}{a b:List At}{A B:Option Addr}{n c m d:Nat}{w:World}(ha:LsC atE S w a (.slice A n c))(hb:LsC atE T w b (.slice B m d))(za:Tx a)(zb:Tx b):
    Calls Try.prog 14 #[.slice A n c,.slice B m d] w fun e w'=>e=.returned (.bool (unP a b))∧Below w.heap.size w w':=by
  obtain⟨h1,h2,h3,h4⟩:=ls4 ha
  obtain⟨k1,k2,k3,k4⟩:=ls4 hb
  exact runder_any _ _ A B n c m d a b w h1 k1 h4 k4 h2 h3 k2 k3 za zb
theorem ralike_ls {S T:Nat→Prop}{a b:List At}{A B:Option Addr}{n c m d:Nat}{w:World}(ha:LsC atE S w a (.slice A n c))(hb:LsC atE T w b (.slice B m d)):
    Calls Try.prog 24 #[.slice A n c,.slice B m d] w fun e w'=>e=.returned (.bool (eqP eqW a b))∧Below w.heap.size w w':=by
  obtain⟨h1,h2,h3,h4⟩:=ls4 ha
  obtain⟨k1,k2,k3,k4⟩:=ls4 hb
  exact ralike_any _ _ A B n c m d a b w h1 k1 h4 k4 h2 h3 k2 k3
abbrev aboveV (q:Nat):Value:=.func (.func 17) #[] #[.pointer (some ⟨q,0,none⟩)]
abbrev forbidV (q:Nat):Value:=.func (.func 19) #[] #[.pointer (some ⟨q,0,none⟩)]
theorem above_any {S T:Nat→Prop}{n b:List At}{N B:Option Addr}{ln cn lb cb q:Nat}{w:World}(hn:LsC atE S w n (.slice N ln cn))(hb:LsC atE T w b (.slice B lb cb))(zn:Tx n)(zb:Tx b)(hq:w.heap[q]? =some (.cells #[.slice N ln cn] 27)):
    Calls Try.prog 17 #[.slice B lb cb,.pointer (some ⟨q,0,none⟩)] w fun e w'=>e=.returned (.bool (unP n b))∧Below w.heap.size w w':=by
  have e0:w.cell? ⟨q,0,none⟩=some (.slice N ln cn):=(Lib.cell_of_heap hq _).trans rfl
  have HC:=hd_ (under_ls hn hb zn zb)
  obtain⟨R,hR⟩:=nm_ (unP n b)
  rw[hR] at HC⊢
  clear hn hb zn zb hq hR
  go_enter Try.func17,Try.ntmps17
  go_wp2_with fail
  refine HC.out.mono ?_
  rintro e w' ⟨rfl,hb⟩
  have HB:=hd_ hb
  clear hb HC e0
  go_wp2
  go_ret
  exact⟨rfl,HB.out⟩
theorem idxN_any {S T:Nat→Prop}{n:List At}{L:List (List At)}{N A:Option Addr}{ln cn l c q:Nat}{w:World}(hn:LsC atE S w n (.slice N ln cn))(hL:LsC nmE T w L (.slice A l c))(zn:Tx n)(zL: ∀a∈L,Tx a)(hq:w.heap[q]? =some (.cells #[.slice N ln cn] 27)):
    Calls Try.prog 26 #[.slice A l c,aboveV q] w fun e w'=>∃r:Int,e=.returned (.int .i64 r)∧Hid (decide (0≤r)=amongB unP n L∧Below w.heap.size w w'):=by
  have h9:c≤9223372036854775807:=by have:=(ls4 hL).2.2.1;unfold maxLen at this;omega
  have h8:l≤c:=(ls4 hL).2.1
  obtain⟨R,hR⟩:=nm_ (amongB unP n L)
  rw[hR]
  have HR:=hd_ (show amongB unP n (L.drop 0)=R by rw[List.drop_zero];exact hR)
  have HX:=hd_ (And.intro hn (And.intro hL (And.intro zn (And.intro zL hq))))
  clear hn hL zn zL hq hR
  go_enter Try.func26,Try.ntmps26
  go_wp2_with fail
  go_loopg [8] (l+1) (fun gk s8 wx=>∃(k:Nat),s8=.int .i64 k∧k≤l∧l - k<gk∧Hid (amongB unP n (L.drop k)=R∧Below w.heap.size w wx))
  case atStart=>exact⟨0,rfl,by omega,by omega,hd_ ⟨HR.out,Below.refl _ _⟩⟩
  case round=>
    obtain⟨k,rfl,hk,hgk,HI⟩:=hrel
    clear HR
    have hB:=HI.out.2
    by_cases hlt:k<l
    · have hltz:(k:Int)< (l:Int):=by omega
      obtain⟨gk',rfl⟩: ∃g',gk=g'+1:=⟨gk - 1,by omega⟩
      have HN:=hd_ (And.intro (show k+1≤l from hlt) (show l - (k+1)<gk' by omega))
      obtain⟨hn,hL,zn,zL,hq⟩:=HX.out
      obtain⟨hx,g,off,A1,l1,c1,rfl,hg,e0,h1⟩:=at_ls (hL.below hB) hlt
      have HC:=hd_ (above_any (hn.below hB) h1 zn (zL _ (List.getElem_mem hx)) ((hB.block q (Array.getElem?_eq_some_iff.1 hq).1).trans hq))
      have hs:=among_step unP hx HI.out.1
      obtain⟨x,hxx⟩:=nm_ (unP n L[k])
      rw[hxx] at HC hs
      have HS:=hd_ hs
      have HB:=hd_ hB
      clear hB hn hL zn zL hq h1 hs hxx HI hg hx
      go_wp2_with fail
      refine HC.out.mono ?_
      rintro e w' ⟨rfl,hb⟩
      have HB2:=hd_ (below_then HB.out hb (Nat.le_refl _))
      clear hb HC e0 HB
      cases x with
      |true=>
       go_wp2
       go_ret
       exact⟨k,rfl,hd_ ⟨by rw[←HS.out,Bool.true_or];exact decide_eq_true (by omega),HB2.out⟩⟩
      |false=>
       go_wp2
       go_roundg gk'
       case measure=>omega
       case rel=>exact⟨k+1,by go_num,HN.out.1,HN.out.2,hd_ ⟨by rw[←HS.out,Bool.false_or],HB2.out⟩⟩
    · obtain rfl:l=k:=by omega
      have hltz: ¬(l:Int)< (l:Int):=by omega
      have HT:=hd_ (show R=false from among_end unP (by rw[(ls4 HX.out.2.1).1];omega) HI.out.1)
      have HB:=hd_ hB
      clear hB HI
      go_wp2
      go_ret
      exact⟨-1,rfl,hd_ ⟨by rw[HT.out];rfl,HB.out⟩⟩
theorem conN_any {S T:Nat→Prop}{n:List At}{L:List (List At)}{N A:Option Addr}{ln cn l c q:Nat}{w:World}(hn:LsC atE S w n (.slice N ln cn))(hL:LsC nmE T w L (.slice A l c))(zn:Tx n)(zL: ∀a∈L,Tx a)(hq:w.heap[q]? =some (.cells #[.slice N ln cn] 27)):
    Calls Try.prog 20 #[.slice A l c,aboveV q] w fun e w'=>e=.returned (.bool (amongB unP n L))∧Below w.heap.size w w':=by
  have HI:=hd_ (idxN_any hn hL zn zL hq)
  obtain⟨R,hR⟩:=nm_ (amongB unP n L)
  rw[hR] at HI⊢
  clear hn hL zn zL hq hR
  go_enter Try.func20,Try.ntmps20
  go_wp2_with fail
  refine HI.out.mono ?_
  rintro e w' ⟨r,rfl,HO⟩
  clear HI
  go_wp2
  go_ret
  exact⟨by rw[←HO.out.1];rfl,HO.out.2⟩
theorem forbid_any {S T:Nat→Prop}{n:List At}{L:List (List At)}{N A:Option Addr}{ln cn l c q q2:Nat}{w:World}(hn:LsC atE S w n (.slice N ln cn))(hL:LsC nmE T w L (.slice A l c))(zn:Tx n)(zL: ∀a∈L,Tx a)(hq:w.heap[q]? =some (.cells #[.slice N ln cn] 27))(hq2:w.heap[q2]? =some (.cells #[aboveV q] 42)):
    Calls Try.prog 19 #[.slice A l c,.pointer (some ⟨q2,0,none⟩)] w fun e w'=>e=.returned (.bool (!amongB unP n L))∧Below w.heap.size w w':=by
  have e0:w.cell? ⟨q2,0,none⟩=some (aboveV q):=(Lib.cell_of_heap hq2 _).trans rfl
  have HC:=hd_ (conN_any hn hL zn zL hq)
  obtain⟨R,hR⟩:=nm_ (amongB unP n L)
  rw[hR] at HC⊢
  clear hn hL zn zL hq hq2 hR
  go_enter Try.func19,Try.ntmps19
  go_wp2_with fail
  refine HC.out.mono ?_
  rintro e w' ⟨rfl,hb⟩
  have HB:=hd_ hb
  clear hb HC e0
  cases R
  all_goals
    go_wp2
    go_ret
    exact⟨rfl,HB.out⟩
end Go.Proofs.Ytclmaglkekkigaa.nmc
