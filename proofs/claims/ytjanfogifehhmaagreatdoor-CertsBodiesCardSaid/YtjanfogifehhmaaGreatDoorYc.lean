/- The document's words on parts: word, RightPrinc, Right; its The document's node of a name. The document's node of a prin Names held against one another: the program's Same and Under Names held against one another: the document's Same, Under a -/
import Derived.Test.YtjanfogifehhmaaGreatDoorKa
import Derived.Test.YtjanfogifehhmaaGreatDoorProg
import Derived.Lib.ValidAsc
import Derived.Lib.Walk
import Derived.Lib.Endian
import Derived.Lib.EndianBits
import Derived.RegionTactic
import Derived.Deep.Draws
import Derived.Deep.QuietTactic
import Derived.Test.YtjanfogifehhmaaGreatDoorXc
import Derived.Test.YtjanfogifehhmaaGreatDoorYb
import Derived.Deep.RegionHeld3
import Derived.Laws.Cover4
import Derived.Laws.IdiomStrings
import Derived.Lib.RuneBytes
import Derived.Stop.FmtQuoteTie
import Derived.ProofKit
import Derived.OpenShut
import Derived.Test.YtjanfogifehhmaaGreatDoorXa
import Derived.Lib.QuietBelow
import Derived.BigQuiet
set_option linter.unusedVariables false
set_option linter.unusedSimpArgs false
namespace Go.Proofs.YtjanfogifehhmaaGreatDoor.tlvc
open Go.RowKit
def TB (w:World)(A:Option Addr)(n:Nat)(t:ByteArray):Prop:=
 t.size=n∧(0<n→∃b off,A=some ⟨b,off,none⟩∧b<w.heap.size∧∀j,j<n→w.cell? ⟨b,off+j,none⟩=some (.int .u8 ((t.get! j).toNat:Int)))
theorem TB.below {w w':World}{A:Option Addr}{n:Nat}{t:ByteArray}(h:TB w A n t)(hb:Below w.heap.size w w'):TB w' A n t:=
 ⟨h.1,fun hn=>by
   obtain⟨b,off,e,hl,hc⟩:=h.2 hn
   exact⟨b,off,e,Nat.lt_of_lt_of_le hl hb.size,fun j hj=>(hb.cell (p:=⟨b,off+j,none⟩) hl).trans (hc j hj)⟩⟩
theorem get_cut (t:ByteArray)(k j:Nat):(t.extract k t.size).get! j=t.get! (k+j):=by
 rw[←Lib.getD_get!',←Lib.getD_get!',Lib.ext_list,List.getD_eq_getElem?_getD,List.getD_eq_getElem?_getD,List.getElem?_drop]
theorem TB.cut {w:World}{A:Option Addr}{n:Nat}{t:ByteArray}(h:TB w A n t){k:Nat}(hk:k≤n):TB w (if n=k then A else A.map (·.add k)) (n - k) (t.extract k t.size):=by
 refine⟨by rw[Lib.ext_size,h.1],fun hn=>?_⟩
 obtain⟨b,off,rfl,hb,hc⟩:=h.2 (by omega)
 rw[if_neg (by omega)]
 refine⟨b,off+k,by simp[Addr.add_lit],hb,fun j hj=>?_⟩
 rw[Nat.add_assoc,hc (k+j) (by omega),get_cut]
end Go.Proofs.YtjanfogifehhmaaGreatDoor.tlvc
namespace Go.Proofs.YtjanfogifehhmaaGreatDoor.txc
open Go.RowKit tlvc
theorem TB.tail {w:World}{b off n:Nat}{t:ByteArray}(h:TB w (some ⟨b,off,none⟩) n t){k:Nat}(hk:k≤n):TB w (some ⟨b,off+k,none⟩) (n - k) (t.extract k t.size):=by
 have:=h.cut hk
 refine⟨this.1,fun hn=>?_⟩
 rw[if_neg (by omega)] at this
 obtain⟨b',off',e,r⟩:=this.2 hn
 exact⟨b',off',by rw[←e];simp[Addr.add_lit],r⟩
end Go.Proofs.YtjanfogifehhmaaGreatDoor.txc
namespace Go.Proofs.YtjanfogifehhmaaGreatDoor.txc
open Go.RowKit tlvc
end Go.Proofs.YtjanfogifehhmaaGreatDoor.txc
namespace Go.Proofs.YtjanfogifehhmaaGreatDoor.txc
open Go.RowKit tlvc
end Go.Proofs.YtjanfogifehhmaaGreatDoor.txc
namespace Go.Proofs.YtjanfogifehhmaaGreatDoor.txc
open Go.RowKit txm tlvc
end Go.Proofs.YtjanfogifehhmaaGreatDoor.txc
namespace Go.Proofs.YtjanfogifehhmaaGreatDoor.nmc
open Go.RowKit tlvc tlvd ndc txc txm intc intm
def NVal (S:Nat→Prop)(w:World)(n:Nd)(e:Ending)(w':World):Prop:=
 Below w.heap.size w w'∧∃t A la ca K lk ck,e=.returned (.agg #[.int .u8 t,.slice A la ca,.slice K lk ck])∧NdC S w' n (.int .u8 t) (.slice A la ca) (.slice K lk ck)
theorem NVal.mono {S S':Nat→Prop}{w:World}{n:Nd}{e:Ending}{w':World}(hS: ∀g,S g→S' g)(h:NVal S w n e w'):NVal S' w n e w':=by
 obtain⟨hb,t,A,la,ca,K,lk,ck,e,hn⟩:=h
 exact⟨hb,t,A,la,ca,K,lk,ck,e,NdC.mono hS _ _ _ _ hn⟩
end Go.Proofs.YtjanfogifehhmaaGreatDoor.nmc
namespace Go.Proofs.YtjanfogifehhmaaGreatDoor.nmc
open Go.RowKit tlvc tlvd ndc txc txm intc intm
theorem below_drew (w:World):Below w.heap.size w w.drew:=(br_ _ _).drew
theorem cell_on {w w':World}(hb:Below w.heap.size w w'){p:Addr}{v:Value}(h:w.cell? p=some v):w'.cell? p=some v:=(hb.cell (World.block_lt_of_cell? w p h)).trans h
structure LInv {α:Type} (E:El α) (e:TypeId) (Y:Nat→Prop) (W0:World) (v:Value) (xs:List α) (wx:World):Prop where
 bel:Below W0.heap.size W0 wx
 row:GRow E e W0.heap.size Y wx v xs
section
variable {α:Type} {E:El α} {e:TypeId} {Y:Nat→Prop} {W0 wx w':World} {v:Value} {xs:List α}
theorem LInv.start:LInv E e Y W0 (.slice none 0 0) [] W0:=⟨br_ _ _,GRow.nil⟩
theorem LInv.below (hY: ∀g,W0.heap.size≤g→Y g)(h:LInv E e Y W0 v xs wx)(hb:Below wx.heap.size wx w'):LInv E e Y W0 v xs w':=⟨below_then h.bel hb (lr_ _),h.row.below hY hb⟩
theorem LInv.push {P:Program}{t:TypeId}{bytes:Nat}(I:Inf P t e E.sz bytes)(hY: ∀g,W0.heap.size≤g→Y g)(h:LInv E e Y W0 v xs wx)(hb:Below wx.heap.size wx w'){x:α}{news:List Value}(hx:E.hold (fun g=>Y g∧(g<W0.heap.size∨wx.heap.size≤g)) w' x news){g1:Nat}(hg1:wx.heap.size≤g1){T:TypeId}{fr:Nat × Nat}{cs:Array Value}(hbox:w'.heap[g1]? =some (.cells cs T fr))(hcs: ∀(j:Nat) (u:Value),news[j]? =some u→cs[j]? =some u)(hn:(xs.length+1)*bytes≤140737488355328)(hm:xs.length+1≤maxLen):
 ∃A c w2,(Builtin.append_ #[t,t] t #[v,.slice (some ⟨g1,0,none⟩) 1 1]).run P w'=.ok (.slice A (xs.length+1) c) w2∧LInv E e Y W0 (.slice A (xs.length+1) c) (xs++[x]) w2:=by
 have h':=h.below hY hb
 have hg1l:=(Array.getElem?_eq_some_iff.1 hbox).1
 have hlow:=h.bel.size
 have hlow':=h'.bel.size
 have hown:=h.row.lt
 have ne: ∀g,wx.heap.size≤g→some g≠v.ownBlock:=fun g hg e=>by have:=(hown g e.symm).2;omega
 have ne2: ∀g,g<W0.heap.size→some g≠v.ownBlock:=fun g hg e=>by have:=(hown g e.symm).1;omega
 obtain⟨v',w2,hr,hrow,hgr⟩:=h'.row.app I hY t (g:=g1) (off:=0) (c:=1) (x:=x) (news:=news) ⟨hY g1 (by omega),hg1l,ne g1 hg1⟩
  (fun j u hu=>by rw[Nat.zero_add,ch_ hbox];exact hcs j u hu)
  (E.mono (fun g hg=>⟨hg.1.1,hg.2,hg.1.2.elim (ne2 g) (ne g)⟩) (E.bound hx)) hn hm hlow'
 obtain⟨A,c,rfl,hc1,hc2⟩:=hrow.shape
 rw[show(xs++[x]).length=xs.length+1 by simp] at hr hrow
 exact⟨A,c,w2,hr,h'.bel.grown hgr hlow' (fun j hj=>(hown j hj).1),hrow⟩
end
end Go.Proofs.YtjanfogifehhmaaGreatDoor.nmc
set_option linter.unusedVariables false
set_option linter.unusedSimpArgs false
namespace Go.Proofs.YtjanfogifehhmaaGreatDoor.nmc
open Go.RowKit tlvc tlvd ndc txc txm intc intm
end Go.Proofs.YtjanfogifehhmaaGreatDoor.nmc
namespace Go.Proofs.YtjanfogifehhmaaGreatDoor.nmc
open Go.RowKit tlvc tlvd ndc txc txm intc intm
theorem nameF_of (l:List At):nameF l=if rightN l=true then some (nameN l) else none:=rfl
theorem PrC.below {B:Nat→Prop}{w w':World}{p:Pr}{c0 c1:Value}(h:PrC B w p c0 c1)(hb:Below w.heap.size w w'):PrC B w' p c0 c1:=by
 obtain⟨A,c,h0,h1,h2,h3,h4,h5⟩:=h
 exact⟨A,c,h0,h1,h2,h3,h4.below hb,h5⟩
theorem princF_of (p:Pr):princF p=if rightP p=true then some (princN p) else none:=rfl
end Go.Proofs.YtjanfogifehhmaaGreatDoor.nmc
set_option maxHeartbeats 400000
set_option linter.unusedVariables false
set_option linter.unusedSimpArgs false
namespace Go.Proofs.YtjanfogifehhmaaGreatDoor.tlvc
open Go.RowKit Go.ChangeShapes Go.WideShapes Go.ChangeAt
def rvals (xs:List Int):List Value:=xs.map (Value.int .i32)
theorem rvals_length (xs:List Int):(rvals xs).length=xs.length:=List.length_map ..
def FitR (xs:List Int):Prop:=∀x∈xs,0≤x∧x≤1114111
theorem FitR.getD {xs:List Int}(h:FitR xs)(j:Nat):0≤xs.getD j 0∧xs.getD j 0≤1114111:=by
 rcases Nat.lt_or_ge j xs.length with hj |hj
 ·rw[List.getD_eq_getElem?_getD,List.getElem?_eq_getElem hj];exact h _ (List.getElem_mem hj)
 ·rw[List.getD_eq_getElem?_getD,List.getElem?_eq_none hj];exact⟨by decide,by decide⟩
theorem FitR.app {xs ys:List Int}(h:FitR xs)(k:FitR ys):FitR (xs++ys):=fun x hx=>(List.mem_append.1 hx).elim (h x) (k x)
theorem FitR.take {xs:List Int}(h:FitR xs)(k:Nat):FitR (xs.take k):=fun x hx=>h x (List.mem_of_mem_take hx)
theorem FitR.drop {xs:List Int}(h:FitR xs)(k:Nat):FitR (xs.drop k):=fun x hx=>h x (List.mem_of_mem_drop hx)
def Rns (w:World)(A:Option Addr)(n:Nat)(xs:List Int):Prop:=
 xs.length=n∧FitR xs∧(0<n→∃b off,A=some ⟨b,off,none⟩∧b<w.heap.size∧∀j,j<n→w.cell? ⟨b,off+j,none⟩=some (.int .i32 (xs.getD j 0)))
section
variable {w w':World} {A:Option Addr} {n:Nat} {xs:List Int}
theorem Rns.nil_ (w:World)(A:Option Addr):Rns w A 0 []:=⟨rfl,(fun _ h=>absurd h (by simp)),fun h=>absurd h (by omega)⟩
theorem Rns.len (h:Rns w A n xs):xs.length=n:=h.1
theorem Rns.fit (h:Rns w A n xs):FitR xs:=h.2.1
theorem Rns.keep (h:Rns w A n xs)(hs:w.heap.size≤w'.heap.size)(hk: ∀p:Addr,p.block<w.heap.size→w'.cell? p=w.cell? p):Rns w' A n xs:=
 ⟨h.1,h.2.1,fun hn=>by
   obtain⟨b,off,e,hb,hc⟩:=h.2.2 hn
   exact⟨b,off,e,by omega,fun j hj=>(hk _ hb).trans (hc j hj)⟩⟩
theorem Rns.below (h:Rns w A n xs)(hb:Below w.heap.size w w'):Rns w' A n xs:=h.keep hb.size fun _ hp=>hb.cell hp
theorem Rns.alloc (h:Rns w A n xs)(o:Obj):Rns (w.alloc o) A n xs:=h.below ((br_ _ _).alloc (lr_ _) o)
theorem Rns.drewN (h:Rns w A n xs)(q:Nat):Rns (w.drewN q) A n xs:=h
theorem Rns.own {base:Nat}{e:TypeId}{c:Nat}(h:w.ownsRow base e 1 (.slice A n c) n (rvals xs))(hf:FitR xs):Rns w A n xs:=by
 have hl:xs.length=n:=by have:=h.1;rw[rvals_length] at this;omega
 refine⟨hl,hf,fun hn=>?_⟩
 rcases h.2 with ⟨_,h0⟩ | ⟨g,cap,cur,hv,_,hg,_⟩
 ·omega
 ·have hA:A=some ⟨g,0,none⟩∧cap=c:=by simp only[Value.slice.injEq,true_and] at hv;exact⟨hv.1,hv.2.symm⟩
  obtain⟨rfl,rfl⟩:=hA
  refine⟨g,0,rfl,(Array.getElem?_eq_some_iff.1 hg).1,fun j hj=>?_⟩
  rw[Nat.zero_add,h.cellAt j (by omega)]
  simp[rvals,List.getD_eq_getElem?_getD,List.getElem?_eq_getElem (show j<xs.length by omega)]
theorem Rns.cut (h:Rns w A n xs){k cap:Nat}(hk:k≤n)(hc:n≤cap):Rns w (if cap=k then A else A.map (·.add k)) (n - k) (xs.drop k):=by
 refine⟨by rw[List.length_drop,h.1],h.2.1.drop k,fun hn=>?_⟩
 obtain⟨b,off,rfl,hb,hcell⟩:=h.2.2 (by omega)
 rw[if_neg (by omega)]
 refine⟨b,off+k,by simp[Addr.add_lit],hb,fun j hj=>?_⟩
 rw[Nat.add_assoc,hcell (k+j) (by omega)]
 simp[List.getD_eq_getElem?_getD,List.getElem?_drop]
end
section
variable {P:Program} (w:World)
end
theorem nums_back (l:List UInt8):(Extern.FmtText.nums l).map (fun x=>x.toNat.toUInt8)=l:=by
 simp[Extern.FmtText.nums,Function.comp_def]
theorem encode_rune (r:Nat):(Utf8.encode (r:Int)).data.toList=Lib.encodeRune r:=by
 have h:=congrArg (List.map fun x:Int=>x.toNat.toUInt8) (Extern.FmtText.encode_eq r)
 rw[nums_back] at h
 exact h
end Go.Proofs.YtjanfogifehhmaaGreatDoor.tlvc
namespace Go.Proofs.YtjanfogifehhmaaGreatDoor.txm
open tlvc
def f1 (r:Int):List Int:=if kindF r=1 then [] else if kindF r=2 then [32] else if kindF r=3 then [r+32] else [r]
def l1 (rs:List Int):List Int:=rs.flatMap f1
theorem enc_bytes: ∀(ns:List Int) (b:ByteArray),FitR ns→(ns.foldl (fun r n=>r++Utf8.encode n) b).data.toList=b.data.toList++enc ns
 | [],b,_=>by simp[enc]
 |n::ns,b,h=>by
  have hn:=h n List.mem_cons_self
  obtain⟨k,rfl⟩: ∃k:Nat,n=k:=⟨n.toNat,by omega⟩
  rw[List.foldl_cons,enc_bytes ns _ (fun x hx=>h x (List.mem_cons_of_mem _ hx))]
  have e:enc ((k:Int)::ns)=Lib.encodeRune k++enc ns:=by simp[enc]
  rw[e,ByteArray.data_append,Array.toList_append,encode_rune,List.append_assoc]
end Go.Proofs.YtjanfogifehhmaaGreatDoor.txm
namespace Go.Proofs.YtjanfogifehhmaaGreatDoor.txc
open Go.RowKit txm tlvc
theorem ret_b {a b:Bool}(h:a=b):Ending.returned (.bool a)=.returned (.bool b):=by rw[h]
end Go.Proofs.YtjanfogifehhmaaGreatDoor.txc
namespace Go.Proofs.YtjanfogifehhmaaGreatDoor.tlvc
open Go.RowKit Go.ChangeShapes
theorem Rns.upto {w:World}{A:Option Addr}{n:Nat}{xs:List Int}(h:Rns w A n xs){k:Nat}(hk:k≤n):Rns w A k (xs.take k):=by
 refine⟨by rw[List.length_take,h.1];omega,h.2.1.take k,fun hn=>?_⟩
 obtain⟨b,off,rfl,hb,hcell⟩:=h.2.2 (by omega)
 refine⟨b,off,rfl,hb,fun j hj=>?_⟩
 rw[hcell j (by omega)]
 simp[List.getD_eq_getElem?_getD,hj]
end Go.Proofs.YtjanfogifehhmaaGreatDoor.tlvc
namespace Go.Proofs.YtjanfogifehhmaaGreatDoor.txc
open Go.RowKit txm tlvc
theorem take_next {ys:List Int}{k:Nat}{x:Int}(h:k<ys.length)(hx:ys.getD k 0=x):ys.take (k+1)=ys.take k++[x]:=by
 rw[List.take_succ_eq_append_getElem h,←hx]
 simp[List.getD_eq_getElem?_getD,List.getElem?_eq_getElem h]
end Go.Proofs.YtjanfogifehhmaaGreatDoor.txc
namespace Go.Proofs.YtjanfogifehhmaaGreatDoor.txc
open Go.RowKit txm tlvc
theorem Tryz.info21:(Tryz.prog.info? 21).map (fun i=>(i.zero,i.size,i.bytes))=some (some (.int .i32 0),1,4):=by kernel_rfl
end Go.Proofs.YtjanfogifehhmaaGreatDoor.txc
namespace Go.Proofs.YtjanfogifehhmaaGreatDoor.nmc
open Go.RowKit tlvc tlvd ndc txc txm intc intm
theorem drewN_add (w:World)(q r:Nat):(w.drewN q).drewN r=w.drewN (q+r):=by
 unfold World.drewN;simp[Nat.add_assoc]
theorem same_step {xs ys:List Int}{k:Nat}(h:xs.take k=ys.take k)(hx:k<xs.length)(hy:k<ys.length)(he:xs.getD k 0=ys.getD k 0):xs.take (k+1)=ys.take (k+1):=by
 rw[List.take_succ_eq_append_getElem hx,List.take_succ_eq_append_getElem hy,h]
 simp only[List.getD_eq_getElem?_getD,List.getElem?_eq_getElem hx,List.getElem?_eq_getElem hy,Option.getD_some] at he
 rw[he]
def SameB (w:World)(b:Bool)(e:Ending)(w':World):Prop:=e=.returned (.bool b)∧∃q,w'=w.drewN q
theorem SameB.below {w:World}{b:Bool}{e:Ending}{w':World}(h:SameB w b e w'):e=.returned (.bool b)∧Below w.heap.size w w':=by
 obtain⟨h,q,rfl⟩:=h
 exact⟨h,rfl,rfl,rfl,lr_ _,fun _ _=>rfl⟩
theorem isame_any (A B:Option Addr)(n c m d:Nat)(xs ys:List Int)(w:World)(hx:Ins w A n xs)(hy:Ins w B m ys)(hm:n≤maxLen):
 Calls Tryz.prog 66 #[.slice A n c,.slice B m d] w (SameB w (decide (xs=ys))):=by
 unfold maxLen at hm
 have hlx:=hx.len
 have hly:=hy.len
 by_cases hnm:n=m
 ·subst hnm
  have HX:=hd_ hlx
  have HY:=hd_ hly
  have hcx:=hd_ hx.2.2
  have hcy:=hd_ hy.2.2
  obtain⟨R,hR⟩:=nm_ (decide (xs=ys))
  have HR:=hd_ hR
  rw[hR]
  clear hlx hly hR
  go_enter Tryz.func66,Tryz.ntmps66
  go_wp2
  go_loopw [5] (fun x wr=>∃k:Nat,x=.int .i64 k∧k≤n∧xs.take k=ys.take k∧∃q,wr=w.drewN q) (fun x _=>n - (intOf x).toNat)
  case atStart=>exact⟨0,rfl,by omega,rfl,0,rfl⟩
  case round=>
   obtain⟨k,rfl,hk,he,q,rfl⟩:=hrel
   by_cases hlt:k<n
   ·obtain⟨b,off,rfl,_,hcl⟩:=hcx.out (by omega)
    obtain⟨b2,off2,rfl,_,hcl2⟩:=hcy.out (by omega)
    have hc1: ∀q,(w.drewN q).cell? ⟨b,off+k,none⟩=some (.int .i64 (xs.getD k 0)):=fun q=>hcl k hlt
    have hc2: ∀q,(w.drewN q).cell? ⟨b2,off2+k,none⟩=some (.int .i64 (ys.getD k 0)):=fun q=>hcl2 k hlt
    have hstep:=same_step he (by rw[HX.out];exact hlt) (by rw[HY.out];exact hlt)
    obtain⟨x,hxx⟩:=nm_ (xs.getD k 0)
    obtain⟨y,hyy⟩:=nm_ (ys.getD k 0)
    have HE:=hd_ he
    have HXX:=hd_ hxx
    have HYY:=hd_ hyy
    rw[hxx] at hc1
    rw[hyy] at hc2
    rw[hxx,hyy] at hstep
    have HS:=hd_ hstep
    have hk0:(k:Int)<n:=by omega
    have hk1:(0:Int)≤k:=by omega
    clear hcl hcl2 he hxx hyy hstep
    by_cases hxy:x=y
    ·subst hxy
     have hS2:=HS.out rfl
     have HS2:=hd_ hS2
     clear HS hS2
     go_wp2
     go_quiet (fail)
     go_wp2
     go_roundw
     case rel=>exact⟨k+1,by go_num,by omega,HS2.out,_,rfl⟩
     case measure=>simp[intOf];omega
    ·have hne:(x !=y)=true:=by simpa using hxy
     have e:R=false:=by
      rw[←HR.out]
      simp only[decide_eq_false_iff_not]
      intro h
      rw[h] at HXX
      exact hxy (HXX.out.symm.trans HYY.out)
     subst e
     clear hxy
     go_wp2
     go_quiet (fail)
     go_wp2
     go_ret
     exact⟨rfl,_,drewN_add _ _ _⟩
   ·have e:R=true:=by
     rw[←HR.out]
     simp only[decide_eq_true_eq]
     rwa[List.take_of_length_le (by rw[HX.out];omega),List.take_of_length_le (by rw[HY.out];omega)] at he
    subst e
    clear he
    go_wp2
    go_ret
    exact⟨rfl,_,rfl⟩
 ·have e:decide (xs=ys)=false:=by
   simp only[decide_eq_false_iff_not]
   intro h
   rw[h] at hlx
   exact hnm (hlx.symm.trans hly)
  have hne:((n:Int) !=m)=true:=by simp only[bne_iff_ne,ne_eq];omega
  have hne2:(n !=m)=true:=by simpa using hnm
  rw[e]
  clear e hlx hly hnm
  go_enter Tryz.func66,Tryz.ntmps66
  go_wp2
  go_ret
  exact⟨rfl,0,rfl⟩
theorem ieq_any (A B:Option Addr)(n c m d:Nat)(xs ys:List Int)(w:World)(hx:Ins w A n xs)(hy:Ins w B m ys)(hm:n≤maxLen):
 Calls Tryz.prog 138 #[.slice A n c,.slice B m d] w (SameB w (decide (xs=ys))):=by
 unfold maxLen at hm
 have hlx:=hx.len
 have hly:=hy.len
 by_cases hnm:n=m
 ·subst hnm
  have HX:=hd_ hlx
  have HY:=hd_ hly
  have hcx:=hd_ hx.2.2
  have hcy:=hd_ hy.2.2
  obtain⟨R,hR⟩:=nm_ (decide (xs=ys))
  have HR:=hd_ hR
  rw[hR]
  clear hlx hly hR
  go_enter Tryz.func138,Tryz.ntmps138
  go_wp2
  go_loopw [13] (fun x wr=>∃k:Nat,x=.int .i64 k∧k≤n∧xs.take k=ys.take k∧∃q,wr=w.drewN q) (fun x _=>n - (intOf x).toNat)
  case atStart=>exact⟨0,rfl,by omega,rfl,0,rfl⟩
  case round=>
   obtain⟨k,rfl,hk,he,q,rfl⟩:=hrel
   by_cases hlt:k<n
   ·obtain⟨b,off,rfl,_,hcl⟩:=hcx.out (by omega)
    obtain⟨b2,off2,rfl,_,hcl2⟩:=hcy.out (by omega)
    have hc1: ∀q,(w.drewN q).cell? ⟨b,off+k,none⟩=some (.int .i64 (xs.getD k 0)):=fun q=>hcl k hlt
    have hc2: ∀q,(w.drewN q).cell? ⟨b2,off2+k,none⟩=some (.int .i64 (ys.getD k 0)):=fun q=>hcl2 k hlt
    have hstep:=same_step he (by rw[HX.out];exact hlt) (by rw[HY.out];exact hlt)
    obtain⟨x,hxx⟩:=nm_ (xs.getD k 0)
    obtain⟨y,hyy⟩:=nm_ (ys.getD k 0)
    have HE:=hd_ he
    have HXX:=hd_ hxx
    have HYY:=hd_ hyy
    rw[hxx] at hc1
    rw[hyy] at hc2
    rw[hxx,hyy] at hstep
    have HS:=hd_ hstep
    have hk0:(k:Int)<n:=by omega
    have hk1:(0:Int)≤k:=by omega
    clear hcl hcl2 he hxx hyy hstep
    by_cases hxy:x=y
    ·subst hxy
     have hS2:=HS.out rfl
     have HS2:=hd_ hS2
     clear HS hS2
     go_wp2
     go_quiet (fail)
     go_wp2
     go_roundw
     case rel=>exact⟨k+1,by go_num,by omega,HS2.out,_,rfl⟩
     case measure=>simp[intOf];omega
    ·have hne:(x !=y)=true:=by simpa using hxy
     have e:R=false:=by
      rw[←HR.out]
      simp only[decide_eq_false_iff_not]
      intro h
      rw[h] at HXX
      exact hxy (HXX.out.symm.trans HYY.out)
     subst e
     clear hxy
     go_wp2
     go_quiet (fail)
     go_wp2
     go_ret
     exact⟨rfl,_,drewN_add _ _ _⟩
   ·have e:R=true:=by
     rw[←HR.out]
     simp only[decide_eq_true_eq]
     rwa[List.take_of_length_le (by rw[HX.out];omega),List.take_of_length_le (by rw[HY.out];omega)] at he
    subst e
    clear he
    go_wp2
    go_ret
    exact⟨rfl,_,rfl⟩
 ·have e:decide (xs=ys)=false:=by
   simp only[decide_eq_false_iff_not]
   intro h
   rw[h] at hlx
   exact hnm (hlx.symm.trans hly)
  have hne:((n:Int) !=m)=true:=by simp only[bne_iff_ne,ne_eq];omega
  have hne2:(n !=m)=true:=by simpa using hnm
  rw[e]
  clear e hlx hly hnm
  go_enter Tryz.func138,Tryz.ntmps138
  go_wp2
  go_ret
  exact⟨rfl,0,rfl⟩
theorem ieq_b (A B:Option Addr)(n c m d:Nat)(xs ys:List Int)(w:World)(hx:Ins w A n xs)(hy:Ins w B m ys)(hm:n≤maxLen):Calls Tryz.prog 138 #[.slice A n c,.slice B m d] w fun e w'=>e=.returned (.bool (decide (xs=ys)))∧Below w.heap.size w w':=
 (ieq_any A B n c m d xs ys w hx hy hm).mono fun e w' h=>h.below
theorem isame_b (A B:Option Addr)(n c m d:Nat)(xs ys:List Int)(w:World)(hx:Ins w A n xs)(hy:Ins w B m ys)(hm:n≤maxLen):Calls Tryz.prog 66 #[.slice A n c,.slice B m d] w fun e w'=>e=.returned (.bool (decide (xs=ys)))∧Below w.heap.size w w':=
 (isame_any A B n c m d xs ys w hx hy hm).mono fun e w' h=>h.below
theorem str_ne {P Q:ByteArray}(h: ¬P=Q): ¬P.toList=Q.toList:=fun e=>h (by
 apply ByteArray.ext
 apply Array.ext'
 rw[ByteArray.toList_eq,ByteArray.toList_eq] at e
 exact e)
end Go.Proofs.YtjanfogifehhmaaGreatDoor.nmc
namespace Go.Proofs.YtjanfogifehhmaaGreatDoor.nmc
open Go.RowKit tlvc tlvd ndc txc txm intc intm
def eqP {α:Type}(p:α→α→Bool):List α→List α→Bool
 | [],[]=>true
 |x::xs,y::ys=>p x y && eqP p xs ys
 |_,_=>false
section
variable {α:Type} {p:α→α→Bool}
theorem eqP_len: ∀{a b:List α},eqP p a b=true→a.length=b.length
 | [],[],_=>rfl
 | [],_::_,h=>by simp[eqP] at h
 |_::_,[],h=>by simp[eqP] at h
 |x::xs,y::ys,h=>by
  unfold eqP at h
  rw[Bool.and_eq_true] at h
  simp[eqP_len h.2]
theorem eqP_no {a b:List α}(h:a.length≠b.length):eqP p a b=false:=by
 cases e:eqP p a b
 ·rfl
 ·exact absurd (eqP_len e) h
theorem eqP_step {a b:List α}{i:Nat}{R:Bool}(h1:i<a.length)(h2:i<b.length)(h:eqP p (a.drop i) (b.drop i)=R):(p a[i] b[i]=false→R=false)∧(p a[i] b[i]=true→eqP p (a.drop (i+1)) (b.drop (i+1))=R):=by
 rw[List.drop_eq_getElem_cons h1,List.drop_eq_getElem_cons h2] at h
 unfold eqP at h
 constructor
 ·intro e;rw[←h,e];rfl
 ·intro e;rw[←h,e];rfl
theorem eqP_end {a b:List α}{i:Nat}{R:Bool}(h1: ¬i<a.length)(h2: ¬i<b.length)(h:eqP p (a.drop i) (b.drop i)=R):R=true:=by
 rw[←h,List.drop_eq_nil_of_le (by omega),List.drop_eq_nil_of_le (by omega)]
 rfl
theorem eqP_iff: ∀{a b:List α},eqP p a b=true↔a.length=b.length∧∀(i:Nat) (h1:i<a.length) (h2:i<b.length),p a[i] b[i]=true
 | [],[]=>by simp[eqP]
 | [],_::_=>by simp[eqP]
 |_::_,[]=>by simp[eqP]
 |x::us,y::vs=>by
  unfold eqP
  rw[Bool.and_eq_true,eqP_iff (a:=us) (b:=vs)]
  constructor
  ·rintro⟨h0,hl,h⟩
   refine⟨by simp[hl],fun i h1 h2=>?_⟩
   cases i with
   |zero=>exact h0
   |succ i=>exact h i (by simpa using h1) (by simpa using h2)
  ·rintro⟨hl,h⟩
   exact⟨h 0 (by simp) (by simp),by simpa using hl,fun i h1 h2=>h (i+1) (by simpa using h1) (by simpa using h2)⟩
end
theorem at_cells {B:Nat→Prop}{w wr:World}{A:Option Addr}{xs:List At}(hL:Lst atE B w A xs)(hb:Below w.heap.size w wr)(i:Nat)(hi:i<xs.length): ∃g off A0 l0 k0 s,A=some ⟨g,off,none⟩∧xs[i].text=s∧wr.cell? ⟨g,off+i*2,none⟩=some (.slice A0 l0 k0)∧wr.cell? ⟨g,off+i*2+1,none⟩=some (.string s)∧
 l0≤k0∧k0≤maxLen∧Ins wr A0 l0 xs[i].oid∧s.size≤maxLen∧atE.hold B wr xs[i] [.slice A0 l0 k0,.string s]:=by
 obtain⟨g,off,cs,rfl,hg,hcell,hold⟩:=(hL.below hb).at i hi
 have hh:=hold
 obtain⟨c0,c1,rfl,A0,l0,k0,rfl,rfl,hx1,hx2,hx3,hx4,hx5⟩:=hold
 have e0:=hcell 0 _ rfl
 have e1:=hcell 1 _ rfl
 rw[show atE.sz=2 from rfl] at e0 e1
 rw[Nat.add_zero] at e0
 exact⟨g,off,A0,l0,k0,_,rfl,rfl,e0,e1,hx1,hx2,hx3,hx5,hh⟩
end Go.Proofs.YtjanfogifehhmaaGreatDoor.nmc
set_option maxRecDepth 100000
set_option maxHeartbeats 8000000
set_option linter.unusedVariables false
set_option linter.unusedSimpArgs false
namespace Go.Proofs.YtjanfogifehhmaaGreatDoor.nmc
open Go.RowKit tlvc tlvd ndc txc txm intc intm
def eqW (a b:At):Bool:=decide (a.oid=b.oid) && decide (a.text=b.text)
theorem eqW_iff {a b:At}:eqW a b=true↔a=b:=by
 unfold eqW
 rw[Bool.and_eq_true,decide_eq_true_eq,decide_eq_true_eq]
 cases a;cases b
 simp
theorem eqW_list {a b:List At}:eqP eqW a b=true↔a=b:=by
 rw[eqP_iff]
 constructor
 ·rintro⟨hl,h⟩
  exact List.ext_getElem hl fun i h1 h2=>eqW_iff.1 (h i h1 h2)
 ·rintro rfl
  exact⟨rfl,fun i h1 h2=>eqW_iff.2 rfl⟩
theorem ralike_any (B C:Nat→Prop)(A A':Option Addr)(n c m d:Nat)(xs ys:List At)(w:World)(hl:xs.length=n)(hl2:ys.length=m)(hL:Lst atE B w A xs)(hL2:Lst atE C w A' ys)(hc:n≤c)(hm:c≤maxLen)(hc2:m≤d)(hm2:d≤maxLen):
 Calls Tryz.prog 31 #[.slice A n c,.slice A' m d] w fun e w'=>e=.returned (.bool (eqP eqW xs ys))∧Below w.heap.size w w':=by
 have h9:c≤9223372036854775807:=by unfold maxLen at hm;omega
 have h92:d≤9223372036854775807:=by unfold maxLen at hm2;omega
 by_cases hnm:n=m
 ·subst hnm
  obtain⟨R,hR⟩:=nm_ (eqP eqW xs ys)
  rw[hR]
  have HR:=hd_ (show eqP eqW (xs.drop 0) (ys.drop 0)=R by rw[List.drop_zero,List.drop_zero];exact hR)
  have HL:=hd_ (ai_ hl (ai_ hl2 (ai_ hL hL2)))
  clear hl hl2 hL hL2 hR hm hm2
  go_enter Tryz.func31,Tryz.ntmps31
  go_wp2_with fail
  go_loopg [5] (n+1) (fun gk s5 wx=>∃(i:Nat),s5=.int .i64 i∧i≤n∧n - i<gk∧Hid (eqP eqW (xs.drop i) (ys.drop i)=R∧Below w.heap.size w wx))
  case atStart=>exact⟨0,rfl,by omega,by omega,hd_ ⟨HR.out,br_ _ _⟩⟩
  case round=>
   obtain⟨i,rfl,hi,hgk,HI⟩:=hrel
   clear HR
   by_cases hlt:i<n
   ·have hltz:(i:Int)< (n:Int):=by omega
    obtain⟨gk',rfl⟩: ∃g',gk=g'+1:=⟨gk - 1,by omega⟩
    have HN:=hd_ (ai_ (show i+1≤n from hlt) (show n - (i+1)<gk' by omega))
    have hix:i<xs.length:=by rw[HL.out.1];exact hlt
    have hiy:i<ys.length:=by rw[HL.out.2.1];exact hlt
    obtain⟨g,off,A0,l0,k0,s,rfl,hs,e0,e1,hx1,hx2,hx3,hx5,hxh⟩:=at_cells HL.out.2.2.1 HI.out.2 i hix
    obtain⟨g',off',A1,l1,k1,t,rfl,ht,e0',e1',hy1,hy2,hy3,hy5,hyh⟩:=at_cells HL.out.2.2.2 HI.out.2 i hiy
    have hE:=fun W (hW:Below wr.heap.size wr W)=>isame_b A0 A1 l0 k0 l1 k1 xs[i].oid ys[i].oid W (hx3.below hW) (hy3.below hW) (Nat.le_trans hx1 hx2)
    have hst:=eqP_step hix hiy HI.out.1
    rw[show eqW xs[i] ys[i]=(decide (xs[i].oid=ys[i].oid) && decide (xs[i].text=ys[i].text)) from rfl,hs,ht] at hst
    obtain⟨P,hP0⟩:=nm_ (s)
    obtain⟨Q,hQ0⟩:=nm_ (t)
    rw[hP0] at e1 hxh hx5 hst hs
    rw[hQ0] at e1' hyh hy5 hst ht
    clear hP0 hQ0
    obtain⟨o,ho⟩:=nm_ (decide (xs[i].oid=ys[i].oid))
    rw[ho] at hE hst
    have g0:=fun(d:Nat) (os:Array Obj)=>cell_on (below_regrown wr d os) e0
    have g1:=fun(d:Nat) (os:Array Obj)=>cell_on (below_regrown wr d os) e1
    have g2:=fun(d:Nat) (os:Array Obj)=>cell_on (below_regrown wr d os) e0'
    have g3:=fun(d:Nat) (os:Array Obj)=>cell_on (below_regrown wr d os) e1'
    have i1:(0:Int)≤(i:Int):=by omega
    have HE:=hd_ (fun(d:Nat) (os:Array Obj)=>hE _ (below_regrown wr d os))
    clear hE ho hx1 hx2 hx3 hx5 hxh hy1 hy2 hy3 hy5 hyh hs ht hgk e0 e1 e0' e1'
    by_cases hpq:P=Q
    ·subst hpq
     rw[decide_eq_true rfl,Bool.and_true] at hst
     have HS:=hd_ hst
     clear hst
     cases o
     all_goals
      go_wp2_with fail
      try dsimp only
      refine wp_region_quiet_below (by kernel_rfl) (by kernel_rfl) ?_
      repeat (go_big_quiet_step ((first | (go_at_call 66;refine Calls.regrown_of (HE.out _ _)))))
      refine wpQuiet_nil ?_
      intro _ hw'
      obtain⟨⟨nq,osq⟩,hw''⟩:=hw'
      subst hw''
      have hfin:=hd_ (below_then HI.out.2 (below_regrown wr nq osq) (lr_ _))
      clear g0 g1 g2 g3
     ·have hR:=HS.out.1 (by first |rfl |trivial)
      subst hR
      go_wp2
      go_ret
      exact⟨rfl,hfin.out⟩
     ·have HS2:=hd_ (HS.out.2 (by first |rfl |trivial))
      go_wp2
      go_roundg gk'
      case measure=>omega
      case rel=>exact⟨i+1,by go_num,HN.out.1,HN.out.2,hd_ ⟨HS2.out,hfin.out⟩⟩
    ·have hz1:=str_ne hpq
     have hz2:(P.toList==Q.toList)=false:=by simpa using hz1
     have hz3:(P.toList !=Q.toList)=true:=by simpa using hz1
     rw[decide_eq_false hpq,Bool.and_false] at hst
     have HS:=hd_ hst
     clear hst
     cases o
     all_goals
      go_wp2_with fail
      try dsimp only
      refine wp_region_quiet_below (by kernel_rfl) (by kernel_rfl) ?_
      repeat (go_big_quiet_step ((first | (go_at_call 66;refine Calls.regrown_of (HE.out _ _)))))
      refine wpQuiet_nil ?_
      intro _ hw'
      obtain⟨⟨nq,osq⟩,hw''⟩:=hw'
      subst hw''
      have hfin:=hd_ (below_then HI.out.2 (below_regrown wr nq osq) (lr_ _))
      clear g0 g1 g2 g3
      have hR:=HS.out.1 (by first |rfl |trivial)
      subst hR
      go_wp2
      go_ret
      exact⟨rfl,hfin.out⟩
   ·obtain rfl:n=i:=by omega
    have hltz: ¬(n:Int)< (n:Int):=by omega
    have hR:=eqP_end (by rw[HL.out.1];omega) (by rw[HL.out.2.1];omega) HI.out.1
    subst hR
    clear hgk
    go_wp2
    go_ret
    exact⟨rfl,HI.out.2⟩
 ·rw[eqP_no (by omega)]
  have hne:((n:Int) !=m)=true:=by simp only[bne_iff_ne,ne_eq];omega
  have hne2:(n !=m)=true:=by simpa using hnm
  clear hL hL2 hl hl2 hnm
  go_enter Tryz.func31,Tryz.ntmps31
  go_wp2
  go_ret
  exact⟨rfl,br_ _ _⟩
end Go.Proofs.YtjanfogifehhmaaGreatDoor.nmc
namespace Go.Proofs.YtjanfogifehhmaaGreatDoor.nmc
open Go.RowKit tlvc tlvd ndc txc txm intc intm
end Go.Proofs.YtjanfogifehhmaaGreatDoor.nmc
