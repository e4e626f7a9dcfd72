/- Names held against one another: the program's Same and Under, the document's Same, Under and Alike. Names held against one another: the program's Same and Under. -/
import Derived.Test.YtconbejjagcnkaaGreatDoorYd
import Derived.Test.YtconbejjagcnkaaGreatDoorXe
import Derived.Lib.QuietBelow
import Derived.BigQuiet
namespace Go.Proofs.YtconbejjagcnkaaGreatDoor.nmc
open Go.RowKit Go.Proofs.YtconbejjagcnkaaGreatDoor.tlvc Go.Proofs.YtconbejjagcnkaaGreatDoor.tlvd Go.Proofs.YtconbejjagcnkaaGreatDoor.ndc Go.Proofs.YtconbejjagcnkaaGreatDoor.txc Go.Proofs.YtconbejjagcnkaaGreatDoor.txm Go.Proofs.YtconbejjagcnkaaGreatDoor.intc Go.Proofs.YtconbejjagcnkaaGreatDoor.intm
set_option linter.unusedVariables false
set_option linter.unusedSimpArgs false
theorem drewN_add (w:World)(q r:Nat):(w.drewN q).drewN r=w.drewN (q+r):=by
  unfold World.drewN;simp[Nat.add_assoc]
theorem same_step {xs ys:List Int}{k:Nat}(h:xs.take k=ys.take k)(hx:k<xs.length)(hy:k<ys.length)(he:xs.getD k 0=ys.getD k 0):xs.take (k+1)=ys.take (k+1):=by
  rw[List.take_succ_eq_append_getElem hx,List.take_succ_eq_append_getElem hy,h]
  simp only[List.getD_eq_getElem?_getD,List.getElem?_eq_getElem hx,List.getElem?_eq_getElem hy,Option.getD_some] at he
  rw[he]
def SameB (w:World)(b:Bool)(e:Ending)(w':World):Prop:=e=.returned (.bool b)∧∃q,w'=w.drewN q
theorem SameB.below {w:World}{b:Bool}{e:Ending}{w':World}(h:SameB w b e w'):e=.returned (.bool b)∧Below w.heap.size w w':=by
  obtain⟨h,q,rfl⟩:=h
  exact⟨h,rfl,rfl,rfl,Nat.le_refl _,fun _ _=>rfl⟩
set_option maxHeartbeats 400000 in
theorem isame_any (A B:Option Addr)(n c m d:Nat)(xs ys:List Int)(w:World)(hx:Ins w A n xs)(hy:Ins w B m ys)(hm:n≤maxLen):
    Calls Tryz.prog 65 #[.slice A n c,.slice B m d] w (SameB w (decide (xs=ys))):=by
  unfold maxLen at hm
  have hlx:=hx.len
  have hly:=hy.len
  by_cases hnm:n=m
  · subst hnm
    have HX:=Lib.hid hlx
    have HY:=Lib.hid hly
    have hcx:=Lib.hid hx.2.2
    have hcy:=Lib.hid hy.2.2
    obtain⟨R,hR⟩: ∃R,decide (xs=ys)=R:=⟨_,rfl⟩
    have HR:=Lib.hid hR
    rw[hR]
    clear hlx hly hR
    go_enter Tryz.func65,Tryz.ntmps65
    go_wp2
    go_loopw [5] (fun x wr=>∃k:Nat,x=.int .i64 k∧k≤n∧xs.take k=ys.take k∧∃q,wr=w.drewN q) (fun x _=>n - (intOf x).toNat)
    case atStart=>exact⟨0,rfl,by omega,rfl,0,rfl⟩
    case round=>
      obtain⟨k,rfl,hk,he,q,rfl⟩:=hrel
      by_cases hlt:k<n
      · obtain⟨b,off,rfl,_,hcl⟩:=hcx.out (by omega)
        obtain⟨b2,off2,rfl,_,hcl2⟩:=hcy.out (by omega)
        have hc1: ∀q,(w.drewN q).cell? ⟨b,off+k,none⟩=some (.int .i64 (xs.getD k 0)):=fun q=>hcl k hlt
        have hc2: ∀q,(w.drewN q).cell? ⟨b2,off2+k,none⟩=some (.int .i64 (ys.getD k 0)):=fun q=>hcl2 k hlt
        have hstep:=same_step he (by rw[HX.out];exact hlt) (by rw[HY.out];exact hlt)
        obtain⟨x,hxx⟩: ∃x,xs.getD k 0=x:=⟨_,rfl⟩
        obtain⟨y,hyy⟩: ∃y,ys.getD k 0=y:=⟨_,rfl⟩
        have HE:=Lib.hid he
        have HXX:=Lib.hid hxx
        have HYY:=Lib.hid hyy
        rw[hxx] at hc1
        rw[hyy] at hc2
        rw[hxx,hyy] at hstep
        have HS:=Lib.hid hstep
        have hk0:(k:Int)<n:=by omega
        have hk1:(0:Int)≤k:=by omega
        clear hcl hcl2 he hxx hyy hstep
        by_cases hxy:x=y
        · subst hxy
          have hS2:=HS.out rfl
          have HS2:=Lib.hid hS2
          clear HS hS2
          go_wp2
          go_quiet (fail)
          go_wp2
          go_roundw
          case rel=>exact⟨k+1,by go_num,by omega,HS2.out,_,rfl⟩
          case measure=>simp[intOf];omega
        · have hne:(x !=y)=true:=by simpa using hxy
          have e:R=false:=by
            rw[←HR.out]
            simp only[decide_eq_false_iff_not]
            intro h
            rw[h] at HXX
            exact hxy (HXX.out.symm.trans HYY.out)
          subst e
          clear hxy
          go_wp2
          go_quiet (fail)
          go_wp2
          go_ret
          exact⟨rfl,_,drewN_add _ _ _⟩
      · have e:R=true:=by
          rw[←HR.out]
          simp only[decide_eq_true_eq]
          rwa[List.take_of_length_le (by rw[HX.out];omega),List.take_of_length_le (by rw[HY.out];omega)] at he
        subst e
        clear he
        go_wp2
        go_ret
        exact⟨rfl,_,rfl⟩
  · have e:decide (xs=ys)=false:=by
      simp only[decide_eq_false_iff_not]
      intro h
      rw[h] at hlx
      exact hnm (hlx.symm.trans hly)
    have hne:((n:Int) !=m)=true:=by simp only[bne_iff_ne,ne_eq];omega
    have hne2:(n !=m)=true:=by simpa using hnm
    rw[e]
    clear e hlx hly hnm
    go_enter Tryz.func65,Tryz.ntmps65
    go_wp2
    go_ret
    exact⟨rfl,0,rfl⟩

theorem isame_b (A B:Option Addr)(n c m d:Nat)(xs ys:List Int)(w:World)(hx:Ins w A n xs)(hy:Ins w B m ys)(hm:n≤maxLen):Calls Tryz.prog 65 #[.slice A n c,.slice B m d] w fun e w'=>e=.returned (.bool (decide (xs=ys)))∧Below w.heap.size w w':=
  (isame_any A B n c m d xs ys w hx hy hm).mono fun e w' h=>h.below
theorem str_ne {P Q:ByteArray}(h: ¬P=Q): ¬P.toList=Q.toList:=fun e=>h (by
  apply ByteArray.ext
  apply Array.ext'
  rw[ByteArray.toList_eq,ByteArray.toList_eq] at e
  exact e)
end Go.Proofs.YtconbejjagcnkaaGreatDoor.nmc
namespace Go.Proofs.YtconbejjagcnkaaGreatDoor.nmc
open Go.RowKit Go.Proofs.YtconbejjagcnkaaGreatDoor.tlvc Go.Proofs.YtconbejjagcnkaaGreatDoor.tlvd Go.Proofs.YtconbejjagcnkaaGreatDoor.ndc Go.Proofs.YtconbejjagcnkaaGreatDoor.txc Go.Proofs.YtconbejjagcnkaaGreatDoor.txm Go.Proofs.YtconbejjagcnkaaGreatDoor.intc Go.Proofs.YtconbejjagcnkaaGreatDoor.intm
set_option linter.unusedVariables false
set_option linter.unusedSimpArgs false
/-- Alike, one by one. -/
def eqP {α:Type}(p:α→α→Bool):List α→List α→Bool
  | [],[]=>true
  |x::xs,y::ys=>p x y && eqP p xs ys
  |_,_=>false
section
variable {α:Type} {p:α→α→Bool}
theorem eqP_len: ∀{a b:List α},eqP p a b=true→a.length=b.length
  | [],[],_=>rfl
  | [],_::_,h=>by simp[eqP] at h
  |_::_,[],h=>by simp[eqP] at h
  |x::xs,y::ys,h=>by
   unfold eqP at h
   rw[Bool.and_eq_true] at h
   simp[eqP_len h.2]
theorem eqP_no {a b:List α}(h:a.length≠b.length):eqP p a b=false:=by
  cases e:eqP p a b
  · rfl
  · exact absurd (eqP_len e) h
theorem eqP_step {a b:List α}{i:Nat}{R:Bool}(h1:i<a.length)(h2:i<b.length)(h:eqP p (a.drop i) (b.drop i)=R):(p a[i] b[i]=false→R=false)∧(p a[i] b[i]=true→eqP p (a.drop (i+1)) (b.drop (i+1))=R):=by
  rw[List.drop_eq_getElem_cons h1,List.drop_eq_getElem_cons h2] at h
  unfold eqP at h
  constructor
  · intro e;rw[←h,e];rfl
  · intro e;rw[←h,e];rfl
theorem eqP_end {a b:List α}{i:Nat}{R:Bool}(h1: ¬i<a.length)(h2: ¬i<b.length)(h:eqP p (a.drop i) (b.drop i)=R):R=true:=by
  rw[←h,List.drop_eq_nil_of_le (by omega),List.drop_eq_nil_of_le (by omega)]
  rfl
theorem eqP_iff: ∀{a b:List α},eqP p a b=true↔a.length=b.length∧∀(i:Nat) (h1:i<a.length) (h2:i<b.length),p a[i] b[i]=true
  | [],[]=>by simp[eqP]
  | [],_::_=>by simp[eqP]
  |_::_,[]=>by simp[eqP]
  |x::us,y::vs=>by
   unfold eqP
   rw[Bool.and_eq_true,eqP_iff (a:=us) (b:=vs)]
   constructor
   · rintro⟨h0,hl,h⟩
     refine⟨by simp[hl],fun i h1 h2=>?_⟩
     cases i with
     |zero=>exact h0
     |succ i=>exact h i (by simpa using h1) (by simpa using h2)
   · rintro⟨hl,h⟩
     exact⟨h 0 (by simp) (by simp),by simpa using hl,fun i h1 h2=>h (i+1) (by simpa using h1) (by simpa using h2)⟩
end
/-- Two parts of names at one place, as cells. -/
theorem at_cells {B:Nat→Prop}{w wr:World}{A:Option Addr}{xs:List At}(hL:Lst atE B w A xs)(hb:Below w.heap.size w wr)(i:Nat)(hi:i<xs.length): ∃g off A0 l0 k0 s,A=some ⟨g,off,none⟩∧xs[i].text=s∧wr.cell? ⟨g,off+i*2,none⟩=some (.slice A0 l0 k0)∧wr.cell? ⟨g,off+i*2+1,none⟩=some (.string s)∧
    l0≤k0∧k0≤maxLen∧Ins wr A0 l0 xs[i].oid∧s.size≤maxLen∧atE.hold B wr xs[i] [.slice A0 l0 k0,.string s]:=by
  obtain⟨g,off,cs,rfl,hg,hcell,hold⟩:=(hL.below hb).at i hi
  have hh:=hold
  obtain⟨c0,c1,rfl,A0,l0,k0,rfl,rfl,hx1,hx2,hx3,hx4,hx5⟩:=hold
  have e0:=hcell 0 _ rfl
  have e1:=hcell 1 _ rfl
  rw[show atE.sz=2 from rfl] at e0 e1
  rw[Nat.add_zero] at e0
  exact⟨g,off,A0,l0,k0,_,rfl,rfl,e0,e1,hx1,hx2,hx3,hx5,hh⟩
end Go.Proofs.YtconbejjagcnkaaGreatDoor.nmc
