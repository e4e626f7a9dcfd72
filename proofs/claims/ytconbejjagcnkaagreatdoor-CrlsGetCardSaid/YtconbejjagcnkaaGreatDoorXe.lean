/- Slices of runes that read as a list of numbers: as KitC's words on runes. Nothing here names the program. Texts prepared by the document's own way: the same as by the program's; and the conversions between texts and runes. The document's own kinds of runes. The document's own Prep, walked. The document's own Prep, walked: the walk itself. -/
import Derived.Test.YtconbejjagcnkaaGreatDoorKa
import Derived.Laws.Cover4
import Derived.Laws.IdiomStrings
import Derived.Lib.RuneBytes
import Derived.Stop.FmtQuoteTie
import Derived.ProofKit
import Derived.OpenShut
import Derived.Test.YtconbejjagcnkaaGreatDoorXa
namespace Go.Proofs.YtconbejjagcnkaaGreatDoor.tlvc
open Go.RowKit Go.ChangeShapes Go.WideShapes Go.ChangeAt
set_option linter.unusedVariables false

def rvals (xs:List Int):List Value:=xs.map (Value.int .i32)
theorem rvals_length (xs:List Int):(rvals xs).length=xs.length:=List.length_map ..
def FitR (xs:List Int):Prop:=∀x∈xs,0≤x∧x≤1114111
theorem FitR.getD {xs:List Int}(h:FitR xs)(j:Nat):0≤xs.getD j 0∧xs.getD j 0≤1114111:=by
  rcases Nat.lt_or_ge j xs.length with hj |hj
  · rw[List.getD_eq_getElem?_getD,List.getElem?_eq_getElem hj];exact h _ (List.getElem_mem hj)
  · rw[List.getD_eq_getElem?_getD,List.getElem?_eq_none hj];exact⟨by decide,by decide⟩
theorem FitR.app {xs ys:List Int}(h:FitR xs)(k:FitR ys):FitR (xs++ys):=fun x hx=>(List.mem_append.1 hx).elim (h x) (k x)
theorem FitR.take {xs:List Int}(h:FitR xs)(k:Nat):FitR (xs.take k):=fun x hx=>h x (List.mem_of_mem_take hx)
theorem FitR.drop {xs:List Int}(h:FitR xs)(k:Nat):FitR (xs.drop k):=fun x hx=>h x (List.mem_of_mem_drop hx)

/-- In the world w the slice at A, of n elements, reads as the runes xs. -/
def Rns (w:World)(A:Option Addr)(n:Nat)(xs:List Int):Prop:=
  xs.length=n∧FitR xs∧(0<n→∃b off,A=some ⟨b,off,none⟩∧b<w.heap.size∧∀j,j<n→w.cell? ⟨b,off+j,none⟩=some (.int .i32 (xs.getD j 0)))

section
variable {w w':World} {A:Option Addr} {n:Nat} {xs:List Int}
theorem Rns.nil_ (w:World)(A:Option Addr):Rns w A 0 []:=⟨rfl,(fun _ h=>absurd h (by simp)),fun h=>absurd h (by omega)⟩
theorem Rns.len (h:Rns w A n xs):xs.length=n:=h.1
theorem Rns.fit (h:Rns w A n xs):FitR xs:=h.2.1
theorem Rns.keep (h:Rns w A n xs)(hs:w.heap.size≤w'.heap.size)(hk: ∀p:Addr,p.block<w.heap.size→w'.cell? p=w.cell? p):Rns w' A n xs:=
  ⟨h.1,h.2.1,fun hn=>by
    obtain⟨b,off,e,hb,hc⟩:=h.2.2 hn
    exact⟨b,off,e,by omega,fun j hj=>(hk _ hb).trans (hc j hj)⟩⟩
theorem Rns.below (h:Rns w A n xs)(hb:Below w.heap.size w w'):Rns w' A n xs:=h.keep hb.size fun _ hp=>hb.cell hp
theorem Rns.alloc (h:Rns w A n xs)(o:Obj):Rns (w.alloc o) A n xs:=h.below ((Below.refl _ _).alloc (Nat.le_refl _) o)
theorem Rns.drewN (h:Rns w A n xs)(q:Nat):Rns (w.drewN q) A n xs:=h
theorem Rns.own {base:Nat}{e:TypeId}{c:Nat}(h:w.ownsRow base e 1 (.slice A n c) n (rvals xs))(hf:FitR xs):Rns w A n xs:=by
  have hl:xs.length=n:=by have:=h.1;rw[rvals_length] at this;omega
  refine⟨hl,hf,fun hn=>?_⟩
  rcases h.2 with ⟨_,h0⟩ | ⟨g,cap,cur,hv,_,hg,_⟩
  · omega
  · have hA:A=some ⟨g,0,none⟩∧cap=c:=by simp only[Value.slice.injEq,true_and] at hv;exact⟨hv.1,hv.2.symm⟩
    obtain⟨rfl,rfl⟩:=hA
    refine⟨g,0,rfl,(Array.getElem?_eq_some_iff.1 hg).1,fun j hj=>?_⟩
    rw[Nat.zero_add,h.cellAt j (by omega)]
    simp[rvals,List.getD_eq_getElem?_getD,List.getElem?_eq_getElem (show j<xs.length by omega)]
theorem Rns.cut (h:Rns w A n xs){k cap:Nat}(hk:k≤n)(hc:n≤cap):Rns w (if cap=k then A else A.map (·.add k)) (n - k) (xs.drop k):=by
  refine⟨by rw[List.length_drop,h.1],h.2.1.drop k,fun hn=>?_⟩
  obtain⟨b,off,rfl,hb,hcell⟩:=h.2.2 (by omega)
  rw[if_neg (by omega)]
  refine⟨b,off+k,by simp[Addr.add_lit],hb,fun j hj=>?_⟩
  rw[Nat.add_assoc,hcell (k+j) (by omega)]
  simp[List.getD_eq_getElem?_getD,List.getElem?_drop]
end

section
variable {P:Program} (w:World)
end


theorem nums_back (l:List UInt8):(Extern.FmtText.nums l).map (fun x=>x.toNat.toUInt8)=l:=by
  simp[Extern.FmtText.nums,Function.comp_def]
theorem encode_rune (r:Nat):(Utf8.encode (r:Int)).data.toList=Lib.encodeRune r:=by
  have h:=congrArg (List.map fun x:Int=>x.toNat.toUInt8) (Extern.FmtText.encode_eq r)
  rw[nums_back] at h
  exact h
end Go.Proofs.YtconbejjagcnkaaGreatDoor.tlvc
namespace Go.Proofs.YtconbejjagcnkaaGreatDoor.txm
open Go.Proofs.YtconbejjagcnkaaGreatDoor.tlvc
set_option linter.unusedVariables false
def f1 (r:Int):List Int:=if kindF r=1 then [] else if kindF r=2 then [32] else if kindF r=3 then [r+32] else [r]
def l1 (rs:List Int):List Int:=rs.flatMap f1
/-! ### the conversions -/
theorem enc_bytes: ∀(ns:List Int) (b:ByteArray),FitR ns→(ns.foldl (fun r n=>r++Utf8.encode n) b).data.toList=b.data.toList++enc ns
  | [],b,_=>by simp[enc]
  |n::ns,b,h=>by
   have hn:=h n List.mem_cons_self
   obtain⟨k,rfl⟩: ∃k:Nat,n=k:=⟨n.toNat,by omega⟩
   rw[List.foldl_cons,enc_bytes ns _ (fun x hx=>h x (List.mem_cons_of_mem _ hx))]
   have e:enc ((k:Int)::ns)=Lib.encodeRune k++enc ns:=by simp[enc]
   rw[e,ByteArray.data_append,Array.toList_append,encode_rune,List.append_assoc]
end Go.Proofs.YtconbejjagcnkaaGreatDoor.txm
namespace Go.Proofs.YtconbejjagcnkaaGreatDoor.txc
open Go.RowKit Go.Proofs.YtconbejjagcnkaaGreatDoor.txm Go.Proofs.YtconbejjagcnkaaGreatDoor.tlvc
set_option linter.unusedVariables false
set_option linter.unusedSimpArgs false
theorem ret_b {a b:Bool}(h:a=b):Ending.returned (.bool a)=.returned (.bool b):=by rw[h]

end Go.Proofs.YtconbejjagcnkaaGreatDoor.txc
namespace Go.Proofs.YtconbejjagcnkaaGreatDoor.tlvc
open Go.RowKit Go.ChangeShapes
set_option linter.unusedVariables false
theorem Rns.upto {w:World}{A:Option Addr}{n:Nat}{xs:List Int}(h:Rns w A n xs){k:Nat}(hk:k≤n):Rns w A k (xs.take k):=by
  refine⟨by rw[List.length_take,h.1];omega,h.2.1.take k,fun hn=>?_⟩
  obtain⟨b,off,rfl,hb,hcell⟩:=h.2.2 (by omega)
  refine⟨b,off,rfl,hb,fun j hj=>?_⟩
  rw[hcell j (by omega)]
  simp[List.getD_eq_getElem?_getD,hj]
end Go.Proofs.YtconbejjagcnkaaGreatDoor.tlvc
namespace Go.Proofs.YtconbejjagcnkaaGreatDoor.txc
open Go.RowKit Go.Proofs.YtconbejjagcnkaaGreatDoor.txm Go.Proofs.YtconbejjagcnkaaGreatDoor.tlvc
set_option linter.unusedVariables false
theorem take_next {ys:List Int}{k:Nat}{x:Int}(h:k<ys.length)(hx:ys.getD k 0=x):ys.take (k+1)=ys.take k++[x]:=by
  rw[List.take_succ_eq_append_getElem h,←hx]
  simp[List.getD_eq_getElem?_getD,List.getElem?_eq_getElem h]
end Go.Proofs.YtconbejjagcnkaaGreatDoor.txc
namespace Go.Proofs.YtconbejjagcnkaaGreatDoor.txc
open Go.RowKit Go.Proofs.YtconbejjagcnkaaGreatDoor.txm Go.Proofs.YtconbejjagcnkaaGreatDoor.tlvc
set_option linter.unusedVariables false
set_option linter.unusedSimpArgs false

theorem Tryz.info21:(Tryz.prog.info? 21).map (fun i=>(i.zero,i.size,i.bytes))=some (some (.int .i32 0),1,4):=by kernel_rfl
end Go.Proofs.YtconbejjagcnkaaGreatDoor.txc
