/- Slices of runes that read as a list of numbers: as KitC's wo Names held against one another: the program's Same and Under Names held against one another: the document's Same, Under a -/
import Derived.Test.YtkjkhoglkpepiaaGreatDoorKa
import Derived.Laws.Cover4
import Derived.Laws.IdiomStrings
import Derived.Lib.RuneBytes
import Derived.Stop.FmtQuoteTie
import Derived.ProofKit
import Derived.OpenShut
import Derived.Test.YtkjkhoglkpepiaaGreatDoorXa
import Derived.Test.YtkjkhoglkpepiaaGreatDoorYd
import Derived.Lib.QuietBelow
import Derived.BigQuiet
set_option linter.unusedVariables false
set_option linter.unusedSimpArgs false
namespace Go.Proofs.YtkjkhoglkpepiaaGreatDoor.tlvc
open Go.RowKit Go.ChangeShapes Go.WideShapes Go.ChangeAt

def rvals (xs:List Int):List Value:=xs.map (Value.int .i32)
theorem rvals_length (xs:List Int):(rvals xs).length=xs.length:=List.length_map ..
def FitR (xs:List Int):Prop:=∀x∈xs,0≤x∧x≤1114111
theorem FitR.getD {xs:List Int}(h:FitR xs)(j:Nat):0≤xs.getD j 0∧xs.getD j 0≤1114111:=by
  rcases Nat.lt_or_ge j xs.length with hj |hj
  · rw[List.getD_eq_getElem?_getD,List.getElem?_eq_getElem hj];exact h _ (List.getElem_mem hj)
  · rw[List.getD_eq_getElem?_getD,List.getElem?_eq_none hj];exact⟨by decide,by decide⟩
theorem FitR.app {xs ys:List Int}(h:FitR xs)(k:FitR ys):FitR (xs++ys):=fun x hx=>(List.mem_append.1 hx).elim (h x) (k x)
theorem FitR.take {xs:List Int}(h:FitR xs)(k:Nat):FitR (xs.take k):=fun x hx=>h x (List.mem_of_mem_take hx)
theorem FitR.drop {xs:List Int}(h:FitR xs)(k:Nat):FitR (xs.drop k):=fun x hx=>h x (List.mem_of_mem_drop hx)


def Rns (w:World)(A:Option Addr)(n:Nat)(xs:List Int):Prop:=
  xs.length=n∧FitR xs∧(0<n→∃b off,A=some ⟨b,off,none⟩∧b<w.heap.size∧∀j,j<n→w.cell? ⟨b,off+j,none⟩=some (.int .i32 (xs.getD j 0)))

section
variable {w w':World} {A:Option Addr} {n:Nat} {xs:List Int}
theorem Rns.nil_ (w:World)(A:Option Addr):Rns w A 0 []:=⟨rfl,(fun _ h=>absurd h (by simp)),fun h=>absurd h (by omega)⟩
theorem Rns.len (h:Rns w A n xs):xs.length=n:=h.1
theorem Rns.fit (h:Rns w A n xs):FitR xs:=h.2.1
theorem Rns.keep (h:Rns w A n xs)(hs:w.heap.size≤w'.heap.size)(hk: ∀p:Addr,p.block<w.heap.size→w'.cell? p=w.cell? p):Rns w' A n xs:=
  ⟨h.1,h.2.1,fun hn=>by
    obtain⟨b,off,e,hb,hc⟩:=h.2.2 hn
    exact⟨b,off,e,by omega,fun j hj=>(hk _ hb).trans (hc j hj)⟩⟩
theorem Rns.below (h:Rns w A n xs)(hb:Below w.heap.size w w'):Rns w' A n xs:=h.keep hb.size fun _ hp=>hb.cell hp
theorem Rns.alloc (h:Rns w A n xs)(o:Obj):Rns (w.alloc o) A n xs:=h.below ((br_ _ _).alloc (lr_ _) o)
theorem Rns.drewN (h:Rns w A n xs)(q:Nat):Rns (w.drewN q) A n xs:=h
theorem Rns.own {base:Nat}{e:TypeId}{c:Nat}(h:w.ownsRow base e 1 (.slice A n c) n (rvals xs))(hf:FitR xs):Rns w A n xs:=by
  have hl:xs.length=n:=by have:=h.1;rw[rvals_length] at this;omega
  refine⟨hl,hf,fun hn=>?_⟩
  rcases h.2 with ⟨_,h0⟩ | ⟨g,cap,cur,hv,_,hg,_⟩
  · omega
  · have hA:A=some ⟨g,0,none⟩∧cap=c:=by simp only[Value.slice.injEq,true_and] at hv;exact⟨hv.1,hv.2.symm⟩
    obtain⟨rfl,rfl⟩:=hA
    refine⟨g,0,rfl,(Array.getElem?_eq_some_iff.1 hg).1,fun j hj=>?_⟩
    rw[Nat.zero_add,h.cellAt j (by omega)]
    simp[rvals,List.getD_eq_getElem?_getD,List.getElem?_eq_getElem (show j<xs.length by omega)]
theorem Rns.cut (h:Rns w A n xs){k cap:Nat}(hk:k≤n)(hc:n≤cap):Rns w (if cap=k then A else A.map (·.add k)) (n - k) (xs.drop k):=by
  refine⟨by rw[List.length_drop,h.1],h.2.1.drop k,fun hn=>?_⟩
  obtain⟨b,off,rfl,hb,hcell⟩:=h.2.2 (by omega)
  rw[if_neg (by omega)]
  refine⟨b,off+k,by simp[Addr.add_lit],hb,fun j hj=>?_⟩
  rw[Nat.add_assoc,hcell (k+j) (by omega)]
  simp[List.getD_eq_getElem?_getD,List.getElem?_drop]
end

section
variable {P:Program} (w:World)
end


theorem nums_back (l:List UInt8):(Extern.FmtText.nums l).map (fun x=>x.toNat.toUInt8)=l:=by
  simp[Extern.FmtText.nums,Function.comp_def]
theorem encode_rune (r:Nat):(Utf8.encode (r:Int)).data.toList=Lib.encodeRune r:=by
  have h:=congrArg (List.map fun x:Int=>x.toNat.toUInt8) (Extern.FmtText.encode_eq r)
  rw[nums_back] at h
  exact h
end Go.Proofs.YtkjkhoglkpepiaaGreatDoor.tlvc
namespace Go.Proofs.YtkjkhoglkpepiaaGreatDoor.txm
open tlvc
def f1 (r:Int):List Int:=if kindF r=1 then [] else if kindF r=2 then [32] else if kindF r=3 then [r+32] else [r]
def l1 (rs:List Int):List Int:=rs.flatMap f1

theorem enc_bytes: ∀(ns:List Int) (b:ByteArray),FitR ns→(ns.foldl (fun r n=>r++Utf8.encode n) b).data.toList=b.data.toList++enc ns
  | [],b,_=>by simp[enc]
  |n::ns,b,h=>by
   have hn:=h n List.mem_cons_self
   obtain⟨k,rfl⟩: ∃k:Nat,n=k:=⟨n.toNat,by omega⟩
   rw[List.foldl_cons,enc_bytes ns _ (fun x hx=>h x (List.mem_cons_of_mem _ hx))]
   have e:enc ((k:Int)::ns)=Lib.encodeRune k++enc ns:=by simp[enc]
   rw[e,ByteArray.data_append,Array.toList_append,encode_rune,List.append_assoc]
end Go.Proofs.YtkjkhoglkpepiaaGreatDoor.txm
namespace Go.Proofs.YtkjkhoglkpepiaaGreatDoor.txc
open Go.RowKit txm tlvc
theorem ret_b {a b:Bool}(h:a=b):Ending.returned (.bool a)=.returned (.bool b):=by rw[h]

end Go.Proofs.YtkjkhoglkpepiaaGreatDoor.txc
namespace Go.Proofs.YtkjkhoglkpepiaaGreatDoor.tlvc
open Go.RowKit Go.ChangeShapes
theorem Rns.upto {w:World}{A:Option Addr}{n:Nat}{xs:List Int}(h:Rns w A n xs){k:Nat}(hk:k≤n):Rns w A k (xs.take k):=by
  refine⟨by rw[List.length_take,h.1];omega,h.2.1.take k,fun hn=>?_⟩
  obtain⟨b,off,rfl,hb,hcell⟩:=h.2.2 (by omega)
  refine⟨b,off,rfl,hb,fun j hj=>?_⟩
  rw[hcell j (by omega)]
  simp[List.getD_eq_getElem?_getD,hj]
end Go.Proofs.YtkjkhoglkpepiaaGreatDoor.tlvc
namespace Go.Proofs.YtkjkhoglkpepiaaGreatDoor.txc
open Go.RowKit txm tlvc
theorem take_next {ys:List Int}{k:Nat}{x:Int}(h:k<ys.length)(hx:ys.getD k 0=x):ys.take (k+1)=ys.take k++[x]:=by
  rw[List.take_succ_eq_append_getElem h,←hx]
  simp[List.getD_eq_getElem?_getD,List.getElem?_eq_getElem h]
end Go.Proofs.YtkjkhoglkpepiaaGreatDoor.txc
namespace Go.Proofs.YtkjkhoglkpepiaaGreatDoor.txc
open Go.RowKit txm tlvc

theorem Tryz.info21:(Tryz.prog.info? 21).map (fun i=>(i.zero,i.size,i.bytes))=some (some (.int .i32 0),1,4):=by kernel_rfl
end Go.Proofs.YtkjkhoglkpepiaaGreatDoor.txc
set_option maxHeartbeats 400000
set_option linter.unusedVariables false
set_option linter.unusedSimpArgs false
namespace Go.Proofs.YtkjkhoglkpepiaaGreatDoor.nmc
open Go.RowKit tlvc tlvd ndc txc txm intc intm
theorem drewN_add (w:World)(q r:Nat):(w.drewN q).drewN r=w.drewN (q+r):=by
 unfold World.drewN;simp[Nat.add_assoc]
theorem same_step {xs ys:List Int}{k:Nat}(h:xs.take k=ys.take k)(hx:k<xs.length)(hy:k<ys.length)(he:xs.getD k 0=ys.getD k 0):xs.take (k+1)=ys.take (k+1):=by
 rw[List.take_succ_eq_append_getElem hx,List.take_succ_eq_append_getElem hy,h]
 simp only[List.getD_eq_getElem?_getD,List.getElem?_eq_getElem hx,List.getElem?_eq_getElem hy,Option.getD_some] at he
 rw[he]
def SameB (w:World)(b:Bool)(e:Ending)(w':World):Prop:=e=.returned (.bool b)∧∃q,w'=w.drewN q
theorem SameB.below {w:World}{b:Bool}{e:Ending}{w':World}(h:SameB w b e w'):e=.returned (.bool b)∧Below w.heap.size w w':=by
 obtain⟨h,q,rfl⟩:=h
 exact⟨h,rfl,rfl,rfl,lr_ _,fun _ _=>rfl⟩
theorem isame_any (A B:Option Addr)(n c m d:Nat)(xs ys:List Int)(w:World)(hx:Ins w A n xs)(hy:Ins w B m ys)(hm:n≤maxLen):
 Calls Tryz.prog 150 #[.slice A n c,.slice B m d] w (SameB w (decide (xs=ys))):=by
 unfold maxLen at hm
 have hlx:=hx.len
 have hly:=hy.len
 by_cases hnm:n=m
 ·subst hnm
  have HX:=hd_ hlx
  have HY:=hd_ hly
  have hcx:=hd_ hx.2.2
  have hcy:=hd_ hy.2.2
  obtain⟨R,hR⟩:=nm_ (decide (xs=ys))
  have HR:=hd_ hR
  rw[hR]
  clear hlx hly hR
  go_enter Tryz.func150,Tryz.ntmps150
  go_wp2
  go_loopw [5] (fun x wr=>∃k:Nat,x=.int .i64 k∧k≤n∧xs.take k=ys.take k∧∃q,wr=w.drewN q) (fun x _=>n - (intOf x).toNat)
  case atStart=>exact⟨0,rfl,by omega,rfl,0,rfl⟩
  case round=>
   obtain⟨k,rfl,hk,he,q,rfl⟩:=hrel
   by_cases hlt:k<n
   ·obtain⟨b,off,rfl,_,hcl⟩:=hcx.out (by omega)
    obtain⟨b2,off2,rfl,_,hcl2⟩:=hcy.out (by omega)
    have hc1: ∀q,(w.drewN q).cell? ⟨b,off+k,none⟩=some (.int .i64 (xs.getD k 0)):=fun q=>hcl k hlt
    have hc2: ∀q,(w.drewN q).cell? ⟨b2,off2+k,none⟩=some (.int .i64 (ys.getD k 0)):=fun q=>hcl2 k hlt
    have hstep:=same_step he (by rw[HX.out];exact hlt) (by rw[HY.out];exact hlt)
    obtain⟨x,hxx⟩:=nm_ (xs.getD k 0)
    obtain⟨y,hyy⟩:=nm_ (ys.getD k 0)
    have HE:=hd_ he
    have HXX:=hd_ hxx
    have HYY:=hd_ hyy
    rw[hxx] at hc1
    rw[hyy] at hc2
    rw[hxx,hyy] at hstep
    have HS:=hd_ hstep
    have hk0:(k:Int)<n:=by omega
    have hk1:(0:Int)≤k:=by omega
    clear hcl hcl2 he hxx hyy hstep
    by_cases hxy:x=y
    ·subst hxy
     have hS2:=HS.out rfl
     have HS2:=hd_ hS2
     clear HS hS2
     go_wp2
     go_quiet (fail)
     go_wp2
     go_roundw
     case rel=>exact⟨k+1,by go_num,by omega,HS2.out,_,rfl⟩
     case measure=>simp[intOf];omega
    ·have hne:(x !=y)=true:=by simpa using hxy
     have e:R=false:=by
      rw[←HR.out]
      simp only[decide_eq_false_iff_not]
      intro h
      rw[h] at HXX
      exact hxy (HXX.out.symm.trans HYY.out)
     subst e
     clear hxy
     go_wp2
     go_quiet (fail)
     go_wp2
     go_ret
     exact⟨rfl,_,drewN_add _ _ _⟩
   ·have e:R=true:=by
     rw[←HR.out]
     simp only[decide_eq_true_eq]
     rwa[List.take_of_length_le (by rw[HX.out];omega),List.take_of_length_le (by rw[HY.out];omega)] at he
    subst e
    clear he
    go_wp2
    go_ret
    exact⟨rfl,_,rfl⟩
 ·have e:decide (xs=ys)=false:=by
   simp only[decide_eq_false_iff_not]
   intro h
   rw[h] at hlx
   exact hnm (hlx.symm.trans hly)
  have hne:((n:Int) !=m)=true:=by simp only[bne_iff_ne,ne_eq];omega
  have hne2:(n !=m)=true:=by simpa using hnm
  rw[e]
  clear e hlx hly hnm
  go_enter Tryz.func150,Tryz.ntmps150
  go_wp2
  go_ret
  exact⟨rfl,0,rfl⟩
theorem ieq_any (A B:Option Addr)(n c m d:Nat)(xs ys:List Int)(w:World)(hx:Ins w A n xs)(hy:Ins w B m ys)(hm:n≤maxLen):
 Calls Tryz.prog 106 #[.slice A n c,.slice B m d] w (SameB w (decide (xs=ys))):=by
 unfold maxLen at hm
 have hlx:=hx.len
 have hly:=hy.len
 by_cases hnm:n=m
 ·subst hnm
  have HX:=hd_ hlx
  have HY:=hd_ hly
  have hcx:=hd_ hx.2.2
  have hcy:=hd_ hy.2.2
  obtain⟨R,hR⟩:=nm_ (decide (xs=ys))
  have HR:=hd_ hR
  rw[hR]
  clear hlx hly hR
  go_enter Tryz.func106,Tryz.ntmps106
  go_wp2
  go_loopw [13] (fun x wr=>∃k:Nat,x=.int .i64 k∧k≤n∧xs.take k=ys.take k∧∃q,wr=w.drewN q) (fun x _=>n - (intOf x).toNat)
  case atStart=>exact⟨0,rfl,by omega,rfl,0,rfl⟩
  case round=>
   obtain⟨k,rfl,hk,he,q,rfl⟩:=hrel
   by_cases hlt:k<n
   ·obtain⟨b,off,rfl,_,hcl⟩:=hcx.out (by omega)
    obtain⟨b2,off2,rfl,_,hcl2⟩:=hcy.out (by omega)
    have hc1: ∀q,(w.drewN q).cell? ⟨b,off+k,none⟩=some (.int .i64 (xs.getD k 0)):=fun q=>hcl k hlt
    have hc2: ∀q,(w.drewN q).cell? ⟨b2,off2+k,none⟩=some (.int .i64 (ys.getD k 0)):=fun q=>hcl2 k hlt
    have hstep:=same_step he (by rw[HX.out];exact hlt) (by rw[HY.out];exact hlt)
    obtain⟨x,hxx⟩:=nm_ (xs.getD k 0)
    obtain⟨y,hyy⟩:=nm_ (ys.getD k 0)
    have HE:=hd_ he
    have HXX:=hd_ hxx
    have HYY:=hd_ hyy
    rw[hxx] at hc1
    rw[hyy] at hc2
    rw[hxx,hyy] at hstep
    have HS:=hd_ hstep
    have hk0:(k:Int)<n:=by omega
    have hk1:(0:Int)≤k:=by omega
    clear hcl hcl2 he hxx hyy hstep
    by_cases hxy:x=y
    ·subst hxy
     have hS2:=HS.out rfl
     have HS2:=hd_ hS2
     clear HS hS2
     go_wp2
     go_quiet (fail)
     go_wp2
     go_roundw
     case rel=>exact⟨k+1,by go_num,by omega,HS2.out,_,rfl⟩
     case measure=>simp[intOf];omega
    ·have hne:(x !=y)=true:=by simpa using hxy
     have e:R=false:=by
      rw[←HR.out]
      simp only[decide_eq_false_iff_not]
      intro h
      rw[h] at HXX
      exact hxy (HXX.out.symm.trans HYY.out)
     subst e
     clear hxy
     go_wp2
     go_quiet (fail)
     go_wp2
     go_ret
     exact⟨rfl,_,drewN_add _ _ _⟩
   ·have e:R=true:=by
     rw[←HR.out]
     simp only[decide_eq_true_eq]
     rwa[List.take_of_length_le (by rw[HX.out];omega),List.take_of_length_le (by rw[HY.out];omega)] at he
    subst e
    clear he
    go_wp2
    go_ret
    exact⟨rfl,_,rfl⟩
 ·have e:decide (xs=ys)=false:=by
   simp only[decide_eq_false_iff_not]
   intro h
   rw[h] at hlx
   exact hnm (hlx.symm.trans hly)
  have hne:((n:Int) !=m)=true:=by simp only[bne_iff_ne,ne_eq];omega
  have hne2:(n !=m)=true:=by simpa using hnm
  rw[e]
  clear e hlx hly hnm
  go_enter Tryz.func106,Tryz.ntmps106
  go_wp2
  go_ret
  exact⟨rfl,0,rfl⟩
theorem isame_b (A B:Option Addr)(n c m d:Nat)(xs ys:List Int)(w:World)(hx:Ins w A n xs)(hy:Ins w B m ys)(hm:n≤maxLen):Calls Tryz.prog 150 #[.slice A n c,.slice B m d] w fun e w'=>e=.returned (.bool (decide (xs=ys)))∧Below w.heap.size w w':=
 (isame_any A B n c m d xs ys w hx hy hm).mono fun e w' h=>h.below
end Go.Proofs.YtkjkhoglkpepiaaGreatDoor.nmc
namespace Go.Proofs.YtkjkhoglkpepiaaGreatDoor.nmc
open Go.RowKit tlvc tlvd ndc txc txm intc intm
section
variable {α:Type} {p:α→α→Bool}
end
end Go.Proofs.YtkjkhoglkpepiaaGreatDoor.nmc
set_option linter.unusedVariables false
set_option linter.unusedSimpArgs false
namespace Go.Proofs.YtkjkhoglkpepiaaGreatDoor.nmc
open Go.RowKit tlvc tlvd ndc txc txm intc intm
end Go.Proofs.YtkjkhoglkpepiaaGreatDoor.nmc
namespace Go.Proofs.YtkjkhoglkpepiaaGreatDoor.nmc
open Go.RowKit tlvc tlvd ndc txc txm intc intm
theorem ins_lit {w:World}(cs:List Int)(e:TypeId)(fr:Nat × Nat)(hf:Fit8 cs):Ins (w.alloc (.cells (cs.map (Value.int .i64)).toArray e fr)) (some ⟨w.heap.size,0,none⟩) cs.length cs:=by
 refine⟨rfl,hf,fun _=>⟨_,_,rfl,by simp,fun j hj=>?_⟩⟩
 rw[Nat.zero_add,World.cell?_alloc_mark]
 simp[List.getD_eq_getElem?_getD,List.getElem?_eq_getElem hj]
end Go.Proofs.YtkjkhoglkpepiaaGreatDoor.nmc
