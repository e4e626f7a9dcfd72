/- Slices of runes that read as a list of numbers: as KitC's words on runes. Nothing here names the program. Texts prepared by the document's own way: the same as by the program's; and the conversions between texts and runes. The document's own kinds of runes. The document's own Prep, walked. The document's own Prep, walked: the walk itself. -/
import Derived.Test.YtclmaglkekkigaaKa
import Derived.Laws.Cover4
import Derived.Laws.IdiomStrings
import Derived.Lib.RuneBytes
import Derived.Stop.FmtQuoteTie
import Derived.ProofKit
import Derived.OpenShut
import Derived.Test.YtclmaglkekkigaaXa
namespace Go.Proofs.Ytclmaglkekkigaa.tlvc
open Go.RowKit Go.ChangeShapes Go.WideShapes Go.ChangeAt
set_option linter.unusedVariables false

def rvals (xs:List Int):List Value:=xs.map (Value.int .i32)
theorem rvals_length (xs:List Int):(rvals xs).length=xs.length:=List.length_map ..
theorem rvals_append (xs ys:List Int):rvals (xs++ys)=rvals xs++rvals ys:=List.map_append ..
theorem rvals_one (xs:List Int): ∀u∈rvals xs,u.oneCell'=true:=ints_oneCell .i32 xs
def FitR (xs:List Int):Prop:=∀x∈xs,0≤x∧x≤1114111
theorem FitR.getD {xs:List Int}(h:FitR xs)(j:Nat):0≤xs.getD j 0∧xs.getD j 0≤1114111:=by
  rcases Nat.lt_or_ge j xs.length with hj |hj
  · rw[List.getD_eq_getElem?_getD,List.getElem?_eq_getElem hj];exact h _ (List.getElem_mem hj)
  · rw[List.getD_eq_getElem?_getD,List.getElem?_eq_none hj];exact⟨by decide,by decide⟩
theorem FitR.app {xs ys:List Int}(h:FitR xs)(k:FitR ys):FitR (xs++ys):=fun x hx=>(List.mem_append.1 hx).elim (h x) (k x)
theorem FitR.take {xs:List Int}(h:FitR xs)(k:Nat):FitR (xs.take k):=fun x hx=>h x (List.mem_of_mem_take hx)
theorem FitR.drop {xs:List Int}(h:FitR xs)(k:Nat):FitR (xs.drop k):=fun x hx=>h x (List.mem_of_mem_drop hx)

/-- In the world w the slice at A, of n elements, reads as the runes xs. -/
def Rns (w:World)(A:Option Addr)(n:Nat)(xs:List Int):Prop:=
  xs.length=n∧FitR xs∧(0<n→∃b off,A=some ⟨b,off,none⟩∧b<w.heap.size∧∀j,j<n→w.cell? ⟨b,off+j,none⟩=some (.int .i32 (xs.getD j 0)))

section
variable {w w':World} {A:Option Addr} {n:Nat} {xs:List Int}
theorem Rns.nil_ (w:World)(A:Option Addr):Rns w A 0 []:=⟨rfl,(fun _ h=>absurd h (by simp)),fun h=>absurd h (by omega)⟩
theorem Rns.len (h:Rns w A n xs):xs.length=n:=h.1
theorem Rns.fit (h:Rns w A n xs):FitR xs:=h.2.1
theorem Rns.keep (h:Rns w A n xs)(hs:w.heap.size≤w'.heap.size)(hk: ∀p:Addr,p.block<w.heap.size→w'.cell? p=w.cell? p):Rns w' A n xs:=
  ⟨h.1,h.2.1,fun hn=>by
    obtain⟨b,off,e,hb,hc⟩:=h.2.2 hn
    exact⟨b,off,e,by omega,fun j hj=>(hk _ hb).trans (hc j hj)⟩⟩
theorem Rns.below (h:Rns w A n xs)(hb:Below w.heap.size w w'):Rns w' A n xs:=h.keep hb.size fun _ hp=>hb.cell hp
theorem Rns.alloc (h:Rns w A n xs)(o:Obj):Rns (w.alloc o) A n xs:=h.below ((Below.refl _ _).alloc (Nat.le_refl _) o)
theorem Rns.drewN (h:Rns w A n xs)(q:Nat):Rns (w.drewN q) A n xs:=h
theorem Rns.own {base:Nat}{e:TypeId}{c:Nat}(h:w.ownsRow base e 1 (.slice A n c) n (rvals xs))(hf:FitR xs):Rns w A n xs:=by
  have hl:xs.length=n:=by have:=h.1;rw[rvals_length] at this;omega
  refine⟨hl,hf,fun hn=>?_⟩
  rcases h.2 with ⟨_,h0⟩ | ⟨g,cap,cur,hv,_,hg,_⟩
  · omega
  · have hA:A=some ⟨g,0,none⟩∧cap=c:=by simp only[Value.slice.injEq,true_and] at hv;exact⟨hv.1,hv.2.symm⟩
    obtain⟨rfl,rfl⟩:=hA
    refine⟨g,0,rfl,(Array.getElem?_eq_some_iff.1 hg).1,fun j hj=>?_⟩
    rw[Nat.zero_add,h.cellAt j (by omega)]
    simp[rvals,List.getD_eq_getElem?_getD,List.getElem?_eq_getElem (show j<xs.length by omega)]
end

section
variable {P:Program} (w:World)
/-- append of runes to a row of the call's own, as a run. -/
theorem run_rapp (base:Nat)(t ty e:TypeId)(i:TypeInfo)(z:Value)(ht:P.underlying t=some (.slice e))(hi:P.info? e=some i)(hz:i.zero=some z)
    (hsize:i.size=1) (hby:i.bytes=4) (hzs:z.cells.size=1)
    (v:Value) (n:Nat) (xs:List Value) (hown:w.ownsRow base e 1 v n xs)
    (A:Option Addr) (m c:Nat) (ys:List Int) (hb:Rns w A m ys) (hbnd:n+m≤35184372088832) (hbase:base≤w.heap.size):
    ∃v' w',(Builtin.append_ #[t,t] ty #[v,.slice A m c]).run P w=.ok v' w'∧w'.ownsRow base e 1 v' (n+m) (xs++rvals ys)∧w.grownBy w' v.ownBlock∧(v'=.slice none 0 0↔v=.slice none 0 0∧m=0):=by
  have hmax:n+m≤maxLen:=by unfold maxLen;omega
  rcases A with _ |ad
  · have hm:m=0:=by
      rcases Nat.eq_zero_or_pos m with h0 |h0
      · exact h0
      · obtain⟨b,off,h,_⟩:=hb.2.2 h0
        cases h
    subst hm
    have hn:ys=[]:=List.eq_nil_of_length_eq_zero hb.1
    subst hn
    exact⟨v,w,run_app_nil w base t ty e i ht hi v n xs hown c,by simpa[rvals] using hown,World.grownBy.refl w _,by simp⟩
  · have hcells: ∀j u,(rvals ys)[j]? =some u→w.cell? (ad.add j)=some u:=by
      intro j u hu
      have hj:j<ys.length:=by
        have:=(List.getElem?_eq_some_iff.1 hu).1
        rwa[rvals_length] at this
      obtain⟨b,off,h,_,hc⟩:=hb.2.2 (by have:=hb.1;omega)
      cases h
      rw[Addr.add_lit,hc j (by have:=hb.1;omega),←hu]
      simp[rvals,List.getD_eq_getElem?_getD,List.getElem?_eq_getElem hj]
    obtain⟨v',w',h1,h2,h3,h4⟩:=_root_.Go.run_append_own (P:=P) w base t ty e i z 1 4 ht hi hz hsize hby hzs (by decide) v n xs hown ad m c (rvals ys) (by rw[rvals_length,hb.1];omega) hcells (rvals_one ys) hmax (by omega) hbase
    exact⟨v',w',h1,h2,h3,h4⟩
/-- The same, as the walk takes it. -/
theorem wpl_rapp {w:World}{ops:Array Oper}{rest:List Oper}{o:Oper}{a:Act}{Q:Exit→Act→World→Prop}(hgd:o.guard=none)(s x:Operand)(t:TypeId)
    (ho:o.op=.call {callee:=.builtin .append,args:=#[s,x],argTypes:=#[t,t]})
    (base:Nat) (e:TypeId) (i:TypeInfo) (z:Value) (ht:P.underlying t=some (.slice e)) (hi:P.info? e=some i) (hz:i.zero=some z)
    (hsize:i.size=1) (hby:i.bytes=4) (hzs:z.cells.size=1)
    (v:Value) (n:Nat) (xs:List Value) (hs:a.eval s=v) (hown:w.ownsRow base e 1 v n xs)
    (A:Option Addr) (m c:Nat) (ys:List Int) (hx:a.eval x=.slice A m c) (hb:Rns w A m ys) (hbnd:n+m≤35184372088832) (hbase:base≤w.heap.size)
    (h: ∀v' w',w'.ownsRow base e 1 v' (n+m) (xs++rvals ys)→w.grownBy w' v.ownBlock→(v'=.slice none 0 0↔v=.slice none 0 0∧m=0)→wpList P ops Q rest (a.put o.dst v') w'):wpList P ops Q (o::rest) a w:=by
  refine wpList_plain hgd fun K hK=>?_
  obtain⟨v',w',hrun,h2,h3,h4⟩:=run_rapp (P:=P) w base t o.type e i z ht hi hz hsize hby hzs v n xs hown A m c ys hb hbnd hbase
  unfold Oper.wp
  simp[execOp,ho,resolve,invoke,builtin,hs,hx,hrun,Result.andThen]
  exact hK _ _ (h v' w' h2 h3 h4)
end


theorem nums_back (l:List UInt8):(Extern.FmtText.nums l).map (fun x=>x.toNat.toUInt8)=l:=by
  simp[Extern.FmtText.nums,Function.comp_def]
theorem encode_rune (r:Nat):(Utf8.encode (r:Int)).data.toList=Lib.encodeRune r:=by
  have h:=congrArg (List.map fun x:Int=>x.toNat.toUInt8) (Extern.FmtText.encode_eq r)
  rw[nums_back] at h
  exact h
end Go.Proofs.Ytclmaglkekkigaa.tlvc
namespace Go.Proofs.Ytclmaglkekkigaa.txm
open Go.Proofs.Ytclmaglkekkigaa.tlvc
set_option linter.unusedVariables false
def f1 (r:Int):List Int:=if kindF r=1 then [] else if kindF r=2 then [32] else if kindF r=3 then [r+32] else [r]
def l1 (rs:List Int):List Int:=rs.flatMap f1
def lastZ (l:List Int):Int:=l.getD (l.length - 1) 0
def step2 (out:List Int)(c:Int):List Int:=if c=32∧(out=[]∨lastZ out=32) then out else out++[c]
def trimZ (out:List Int):List Int:=if 0<out.length∧lastZ out=32 then out.take (out.length - 1) else out
theorem lastZ_app (l:List Int)(c:Int):lastZ (l++[c])=c:=by simp[lastZ,List.getD_eq_getElem?_getD]
theorem l1_app (a b:List Int):l1 (a++b)=l1 a++l1 b:=List.flatMap_append ..
theorem l1_one (r:Int):l1 [r]=f1 r:=by simp[l1]
theorem kind3_great {r:Int}(h:kindF r=3):Great r:=by
  unfold kindF at h
  split at h
  · exact absurd h (by decide)
  · split at h
    · exact absurd h (by decide)
    · split at h
      · assumption
      · exact absurd h (by decide)
theorem kind0_32 {r:Int}(h:kindF r=0):r≠32:=fun e=>by subst e;exact absurd h (by decide)
theorem kindw (r:Int):kindF r=1∨kindF r=2∨kindF r=3∨kindF r=0:=by
  unfold kindF;split
  · exact .inl rfl
  · split
    · exact .inr (.inl rfl)
    · split
      · exact .inr (.inr (.inl rfl))
      · exact .inr (.inr (.inr rfl))
def J2 (o2:List Int)(st:List Int × Bool):Prop:=o2=st.1++(if st.2=true then [32] else [])∧(st.2=true→st.1≠[])∧(st.1=[]∨lastZ st.1≠32)
theorem j2_step {o2:List Int}{st:List Int × Bool}(r:Int)(h:J2 o2 st):J2 ((f1 r).foldl step2 o2) (stepP st r):=by
  obtain⟨out,parted⟩:=st
  obtain⟨h1,h2,h3⟩:=h
  simp only at h1 h2 h3
  have add: ∀c:Int,c≠32→J2 (step2 o2 c) (out++(if parted=true then [32] else [])++[c],false):=fun c hc=>by
    unfold step2
    rw[if_neg (fun h=>hc h.1),h1]
    exact⟨by simp,by simp,.inr (by simp only[lastZ_app];exact hc)⟩
  rcases kindw r with hk |hk |hk |hk
  · simp only[f1,stepP,hk,if_true,List.foldl_nil]
    exact⟨h1,h2,h3⟩
  · have e:f1 r=[32]:=by simp[f1,hk]
    have e2:stepP (out,parted) r=(out,decide (out≠[])):=by simp[stepP,hk]
    rw[e,e2]
    simp only[List.foldl_cons,List.foldl_nil]
    unfold step2
    cases parted
    · simp only[Bool.false_eq_true,if_false,List.append_nil] at h1
      subst h1
      rcases h3 with h3 |h3
      · subst h3
        rw[if_pos ⟨rfl,.inl rfl⟩]
        exact⟨by simp,by simp,.inl rfl⟩
      · have hne:o2≠[]∨o2=[]:=by by_cases h:o2=[]<;>simp[h]
        rcases hne with hne |hne
        · rw[if_neg (fun h=>h.2.elim hne h3)]
          exact⟨by simp[hne],fun _=>hne,.inr h3⟩
        · subst hne
          rw[if_pos ⟨rfl,.inl rfl⟩]
          exact⟨by simp,by simp,.inl rfl⟩
    · have hne:=h2 rfl
      simp only[if_true] at h1
      rw[if_pos ⟨rfl,.inr (by rw[h1];exact lastZ_app _ _)⟩]
      refine⟨by rw[h1];simp[hne],fun _=>hne,h3⟩
  · have e:f1 r=[r+32]:=by simp[f1,hk]
    have e2:stepP (out,parted) r=(out++(if parted=true then [32] else [])++[r+32],false):=by simp[stepP,hk]
    have hg:=kind3_great hk
    rw[e,e2]
    exact add _ (by unfold Great at hg;omega)
  · have e:f1 r=[r]:=by simp[f1,hk]
    have e2:stepP (out,parted) r=(out++(if parted=true then [32] else [])++[r],false):=by simp[stepP,hk]
    rw[e,e2]
    exact add _ (kind0_32 hk)
theorem j2_all: ∀(rs:List Int) (o2:List Int) (st:List Int × Bool),J2 o2 st→J2 ((l1 rs).foldl step2 o2) (rs.foldl stepP st)
  | [],_,_,h=>h
  |r::rs,o2,st,h=>by
   have e:l1 (r::rs)=f1 r++l1 rs:=by simp[l1]
   rw[e,List.foldl_append,List.foldl_cons]
   exact j2_all rs _ _ (j2_step r h)
theorem prep2_eq (rs:List Int):trimZ ((l1 rs).foldl step2 [])=prepR rs:=by
  have h:=j2_all rs [] ([],false) ⟨rfl,by simp,.inl rfl⟩
  unfold prepR
  obtain⟨st,hst⟩: ∃st,rs.foldl stepP ([],false)=st:=⟨_,rfl⟩
  obtain⟨o2,ho⟩: ∃o,(l1 rs).foldl step2 []=o:=⟨_,rfl⟩
  rw[hst,ho] at h⊢
  obtain⟨out,parted⟩:=st
  obtain⟨h1,h2,h3⟩:=h
  simp only at h1 h2 h3⊢
  cases parted
  · simp only[Bool.false_eq_true,if_false,List.append_nil] at h1
    subst h1
    unfold trimZ
    rw[if_neg]
    rintro⟨a,b⟩
    rcases h3 with h3 |h3
    · subst h3;simp at a
    · exact h3 b
  · simp only[if_true] at h1
    unfold trimZ
    rw[h1,if_pos ⟨by simp,lastZ_app _ _⟩]
    simp
theorem f1_fit {r:Int}(h:0≤r∧r≤1114111):FitR (f1 r):=by
  intro x hx
  unfold f1 at hx
  split at hx
  · simp at hx
  · split at hx
    · simp at hx;omega
    · split at hx
      · rename_i hk
        have hg:=kind3_great hk
        unfold Great at hg
        simp at hx;omega
      · simp at hx;omega
theorem l1_fit {rs:List Int}(h:FitR rs):FitR (l1 rs):=by
  intro x hx
  simp only[l1,List.mem_flatMap] at hx
  obtain⟨r,hr,hx⟩:=hx
  exact f1_fit (h r hr) x hx
theorem f1_len (r:Int):(f1 r).length≤1:=by unfold f1;split<;>(try split)<;>(try split)<;>simp
theorem l1_len (rs:List Int):(l1 rs).length≤rs.length:=by
  induction rs with
  |nil=>simp[l1]
  |cons r rs ih=>
   have e:l1 (r::rs)=f1 r++l1 rs:=by simp[l1]
   have:=f1_len r
   rw[e,List.length_append,List.length_cons];omega
theorem step2_fit {out:List Int}{c:Int}(h:FitR out)(hc:0≤c∧c≤1114111):FitR (step2 out c):=by
  unfold step2;split
  · exact h
  · exact h.app fun x hx=>by simp at hx;subst hx;exact hc
theorem fold2_fit: ∀(l o:List Int),FitR l→FitR o→FitR (l.foldl step2 o)
  | [],_,_,h=>h
  |c::l,o,hl,ho=>fold2_fit l _ (fun x hx=>hl x (List.mem_cons_of_mem _ hx)) (step2_fit ho (hl c List.mem_cons_self))
theorem step2_len (o:List Int)(c:Int):(step2 o c).length≤o.length+1:=by unfold step2;split<;>simp
theorem fold2_len: ∀(l o:List Int),(l.foldl step2 o).length≤o.length+l.length
  | [],_=>by simp
  |c::l,o=>by
   have:=fold2_len l (step2 o c)
   have:=step2_len o c
   rw[List.foldl_cons,List.length_cons];omega

/-! ### the conversions -/
theorem convF_eq (s:ByteArray): ∀(n p:Nat) (acc:Array Value),Conv.runesFrom s n p acc=acc++((runesF s n p).map (Value.int .i32)).toArray
  |0,_,acc=>by simp[Conv.runesFrom,runesF]
  |n+1,p,acc=>by
   unfold Conv.runesFrom runesF
   by_cases h:p<s.size
   · rw[if_pos h,if_pos h]
     show Conv.runesFrom s n (p+ (Utf8.decode s p).2) (acc.push (.int .i32 ((Utf8.decode s p).1:Int)))=_
     rw[convF_eq s n]
     simp
   · rw[if_neg h,if_neg h];simp
theorem conv_eq (s:ByteArray):Conv.runesFrom s s.size 0 #[]=((runes s).map (Value.int .i32)).toArray:=by rw[convF_eq];simp[runes]
theorem enc_bytes: ∀(ns:List Int) (b:ByteArray),FitR ns→(ns.foldl (fun r n=>r++Utf8.encode n) b).data.toList=b.data.toList++enc ns
  | [],b,_=>by simp[enc]
  |n::ns,b,h=>by
   have hn:=h n List.mem_cons_self
   obtain⟨k,rfl⟩: ∃k:Nat,n=k:=⟨n.toNat,by omega⟩
   rw[List.foldl_cons,enc_bytes ns _ (fun x hx=>h x (List.mem_cons_of_mem _ hx))]
   have e:enc ((k:Int)::ns)=Lib.encodeRune k++enc ns:=by simp[enc]
   rw[e,ByteArray.data_append,Array.toList_append,encode_rune,List.append_assoc]
theorem bytes_enc {ns:List Int}(h:FitR ns):runesBytes ns=⟨(enc ns).toArray⟩:=by
  have e:=enc_bytes ns ByteArray.empty h
  have:(runesBytes ns).data.toList=enc ns:=by unfold runesBytes;rw[e];rfl
  rw[←this]
theorem run_rune_str {P:Program}{w:World}(src dst e:TypeId)(hs:P.underlying src=some (.slice e))(he:P.underlying e=some (.int .i32))(hd:P.underlying dst=some .string)(A:Option Addr)(n c:Nat)(xs:List Int)(h:Rns w A n xs):
    (convert src dst (.slice A n c)).run P w=.ok (.string ⟨(enc xs).toArray⟩) w:=by
  obtain⟨hl,hf,hc⟩:=h
  rw[←bytes_enc hf]
  rcases A with _ |a
  · have h0:n=0:=by
      rcases Nat.eq_zero_or_pos n with h |h
      · exact h
      · obtain⟨b,off,e,_⟩:=hc h;cases e
    subst h0
    rw[List.eq_nil_of_length_eq_zero hl]
    exact run_convert_runes_nil w src dst e 0 c hs he hd
  · subst hl
    have:=run_convert_runes w src dst e a xs.length c xs (Nat.le_refl _) hs he hd (fun j hj=>by
      obtain⟨b,off,e,_,hcc⟩:=hc (by omega)
      cases e
      rw[Addr.add_lit];exact hcc j hj)
    rw[List.take_length] at this
    exact this
theorem runesF_len (s:ByteArray): ∀n p,(runesF s n p).length≤n
  |0,_=>by simp[runesF]
  |n+1,p=>by
   unfold runesF;split
   · have:=runesF_len s n (p+ (Utf8.decode s p).2);rw[List.length_cons];omega
   · simp
theorem runesF_fit (s:ByteArray): ∀n p,FitR (runesF s n p)
  |0,_=>by intro x hx;simp[runesF] at hx
  |n+1,p=>by
   intro x hx
   unfold runesF at hx
   split at hx
   · rcases List.mem_cons.1 hx with rfl |hx
     · have:=Lib.rune_le s p;omega
     · exact runesF_fit s n _ x hx
   · simp at hx
end Go.Proofs.Ytclmaglkekkigaa.txm
namespace Go.Proofs.Ytclmaglkekkigaa.txc
open Go.RowKit Go.Proofs.Ytclmaglkekkigaa.txm Go.Proofs.Ytclmaglkekkigaa.tlvc
set_option linter.unusedVariables false
set_option linter.unusedSimpArgs false
theorem ret_b {a b:Bool}(h:a=b):Ending.returned (.bool a)=.returned (.bool b):=by rw[h]

set_option maxRecDepth 100000 in
set_option maxHeartbeats 8000000 in
theorem noth_any (r:Int)(w:World):
    Calls Try.prog 34 #[.int .i32 r] w fun e w'=>e=.returned (.bool (decide (Noth r)))∧w=w':=by
  obtain⟨b,hb⟩: ∃b,decide (Noth r)=b:=⟨_,rfl⟩
  rw[hb]
  have HB:=Lib.hid hb
  clear hb
  go_enter Try.func34,Try.ntmps34
  go_wp2
  all_goals go_ret
  all_goals refine⟨ret_b ?_,rfl⟩
  all_goals rw[←HB.out]
  all_goals clear HB
  all_goals rw[Bool.eq_iff_iff]
  all_goals simp only[Bool.or_eq_true,Bool.and_eq_true,beq_iff_eq,decide_eq_true_eq,true_iff,Bool.false_eq_true,false_iff]
  all_goals unfold Noth
  all_goals omega

set_option maxRecDepth 100000 in
set_option maxHeartbeats 8000000 in
theorem blank_any (r:Int)(w:World):
    Calls Try.prog 36 #[.int .i32 r] w fun e w'=>e=.returned (.bool (decide (Blank r)))∧w=w':=by
  obtain⟨b,hb⟩: ∃b,decide (Blank r)=b:=⟨_,rfl⟩
  rw[hb]
  have HB:=Lib.hid hb
  clear hb
  go_enter Try.func36,Try.ntmps36
  go_wp2
  all_goals go_ret
  all_goals refine⟨ret_b ?_,rfl⟩
  all_goals rw[←HB.out]
  all_goals clear HB
  all_goals rw[Bool.eq_iff_iff]
  all_goals simp only[Bool.or_eq_true,Bool.and_eq_true,beq_iff_eq,decide_eq_true_eq,true_iff,Bool.false_eq_true,false_iff]
  all_goals unfold Blank
  all_goals omega

set_option maxRecDepth 100000 in
set_option maxHeartbeats 8000000 in
theorem great_any (r:Int)(w:World):
    Calls Try.prog 35 #[.int .i32 r] w fun e w'=>e=.returned (.bool (decide (Great r)))∧w=w':=by
  obtain⟨b,hb⟩: ∃b,decide (Great r)=b:=⟨_,rfl⟩
  rw[hb]
  have HB:=Lib.hid hb
  clear hb
  go_enter Try.func35,Try.ntmps35
  go_wp2
  all_goals go_ret
  all_goals refine⟨ret_b ?_,rfl⟩
  all_goals rw[←HB.out]
  all_goals clear HB
  all_goals rw[Bool.eq_iff_iff]
  all_goals simp only[Bool.or_eq_true,Bool.and_eq_true,beq_iff_eq,decide_eq_true_eq,true_iff,Bool.false_eq_true,false_iff]
  all_goals unfold Great
  all_goals omega
end Go.Proofs.Ytclmaglkekkigaa.txc
namespace Go.Proofs.Ytclmaglkekkigaa.tlvc
open Go.RowKit Go.ChangeShapes
set_option linter.unusedVariables false
theorem Rns.upto {w:World}{A:Option Addr}{n:Nat}{xs:List Int}(h:Rns w A n xs){k:Nat}(hk:k≤n):Rns w A k (xs.take k):=by
  refine⟨by rw[List.length_take,h.1];omega,h.2.1.take k,fun hn=>?_⟩
  obtain⟨b,off,rfl,hb,hcell⟩:=h.2.2 (by omega)
  refine⟨b,off,rfl,hb,fun j hj=>?_⟩
  rw[hcell j (by omega)]
  simp[List.getD_eq_getElem?_getD,hj]
theorem rns_new {w:World}{x:Int}{e:TypeId}(h:0≤x∧x≤1114111):Rns (w.alloc (.cells #[.int .i32 x] e)) (some ⟨w.heap.size,0,none⟩) 1 [x]:=by
  refine⟨rfl,fun y hy=>by simp at hy;subst hy;exact h,fun _=>⟨_,_,rfl,by simp,fun j hj=>?_⟩⟩
  obtain rfl:j=0:=by omega
  rw[Nat.zero_add,World.cell?_alloc_mark]
  simp
theorem run_conv {P:Program}(w:World)(src dst e:TypeId)(s:ByteArray)(hs:P.underlying src=some .string)(hd:P.underlying dst=some (.slice e))(he:P.underlying e=some (.int .i32))(h:s.size≤8796093022208):
    ∃cap W1,(convert src dst (.string s)).run P w=.ok (.slice (some ⟨w.heap.size,0,none⟩) (txm.runes s).length cap) W1∧Rns W1 (some ⟨w.heap.size,0,none⟩) (txm.runes s).length (txm.runes s)∧Below w.heap.size w W1:=by
  have hl:(txm.runes s).length≤s.size:=txm.runesF_len s _ _
  have e1:=txm.conv_eq s
  have e2:(Conv.runesFrom s s.size 0 #[]).size=(txm.runes s).length:=by rw[e1];simp
  have h1:=run_runes_of_string (P:=P) w src dst e s hs hd he (by rw[e2];omega)
  rw[e2] at h1
  refine⟨_,_,h1,⟨rfl,txm.runesF_fit s _ _,fun _=>⟨_,_,rfl,by simp,fun j hj=>?_⟩⟩,?_⟩
  · rw[Nat.zero_add]
    have:=World.cell?_alloc_mark w.drew (Conv.runesFrom s s.size 0 #[]++Array.replicate (grownCap w (txm.runes s).length 0 e - (txm.runes s).length) (.int .i32 0)) e (0,0) j
    refine this.trans ?_
    rw[Array.getElem?_append_left (by rw[e2];exact hj),e1]
    simp[List.getD_eq_getElem?_getD,List.getElem?_eq_getElem hj]
  · exact((Below.refl w.heap.size w).drew).alloc (Nat.le_refl _) _
end Go.Proofs.Ytclmaglkekkigaa.tlvc
namespace Go.Proofs.Ytclmaglkekkigaa.txc
open Go.RowKit Go.Proofs.Ytclmaglkekkigaa.txm Go.Proofs.Ytclmaglkekkigaa.tlvc
set_option linter.unusedVariables false
theorem own_nextR {w wr w':World}{v v':Value}{xs ys zs:List Int}{n:Nat}{c:Array Value}{e:TypeId}(hb:Below w.heap.size w wr)(hown:wr.ownsRow w.heap.size 21 1 v xs.length (rvals xs))(hz:zs=xs++ys)(hn:n=xs.length+ys.length)
    (h:w'.ownsRow w.heap.size 21 1 v' n (rvals xs++rvals ys)) (hg:(wr.alloc (.cells c e)).grownBy w' v.ownBlock):
    w'.ownsRow w.heap.size 21 1 v' zs.length (rvals zs)∧Below w.heap.size w w':=by
  subst hz hn
  rw[←rvals_append] at h
  rw[List.length_append]
  exact⟨h,(hb.alloc hb.size _).grown hg (by have:=hb.size;simp;omega) fun j hj=>(hown.lt j hj).1⟩
theorem take_next {ys:List Int}{k:Nat}{x:Int}(h:k<ys.length)(hx:ys.getD k 0=x):ys.take (k+1)=ys.take k++[x]:=by
  rw[List.take_succ_eq_append_getElem h,←hx]
  simp[List.getD_eq_getElem?_getD,List.getElem?_eq_getElem h]
theorem k1_noth {r:Int}(h:kindF r=1):Noth r:=by
  unfold kindF at h;split at h
  · assumption
  · split at h
    · exact absurd h (by decide)
    · split at h<;>exact absurd h (by decide)
theorem k2_blank {r:Int}(h:kindF r=2):Blank r:=by
  unfold kindF at h;split at h
  · exact absurd h (by decide)
  · split at h
    · assumption
    · split at h<;>exact absurd h (by decide)
theorem k0_none {r:Int}(h:kindF r=0): ¬Noth r∧¬Blank r∧¬Great r:=by
  unfold kindF at h;split at h
  · exact absurd h (by decide)
  · split at h
    · exact absurd h (by decide)
    · split at h
      · exact absurd h (by decide)
      · exact⟨by assumption,by assumption,by assumption⟩
theorem noth_at (r:Int)(b:Bool)(w:World)(h:decide (Noth r)=b):Calls Try.prog 34 #[.int .i32 r] w fun e w'=>e=.returned (.bool b)∧w=w':=by subst h;exact noth_any r w
theorem blank_at (r:Int)(b:Bool)(w:World)(h:decide (Blank r)=b):Calls Try.prog 36 #[.int .i32 r] w fun e w'=>e=.returned (.bool b)∧w=w':=by subst h;exact blank_any r w
theorem great_at (r:Int)(b:Bool)(w:World)(h:decide (Great r)=b):Calls Try.prog 35 #[.int .i32 r] w fun e w'=>e=.returned (.bool b)∧w=w':=by subst h;exact great_any r w
end Go.Proofs.Ytclmaglkekkigaa.txc
namespace Go.Proofs.Ytclmaglkekkigaa.txc
open Go.RowKit Go.Proofs.Ytclmaglkekkigaa.txm Go.Proofs.Ytclmaglkekkigaa.tlvc
set_option linter.unusedVariables false
set_option linter.unusedSimpArgs false

theorem Try.info21:(Try.prog.info? 21).map (fun i=>(i.zero,i.size,i.bytes))=some (some (.int .i32 0),1,4):=by kernel_rfl
set_option maxRecDepth 100000 in
set_option maxHeartbeats 8000000 in
theorem refPrep_any (s:ByteArray)(w:World)(hs:s.size≤8796093022208):
    Calls Try.prog 29 #[.string s] w fun e w'=>e=.returned (.string ⟨(prepF s).toArray⟩)∧Below w.heap.size w w':=by
  obtain⟨i0,hi0,hz0,hz1,hz2⟩:=info_parts Try.info21
  obtain⟨cap0,W1,hcv,hR,hb1⟩:=run_conv (P:=Try.prog) w 9 53 21 s Try.underlying9 Try.underlying53 Try.underlying21 hs
  have hrl:(runes s).length≤s.size:=runesF_len s _ _
  have hrf:FitR (runes s):=runesF_fit s _ _
  have hfin:prepF s=enc (trimZ ((l1 (runes s)).foldl step2 [])):=by rw[prep2_eq];rfl
  rw[hfin]
  obtain⟨rs,hrs⟩: ∃rs,runes s=rs:=⟨_,rfl⟩
  rw[hrs] at hcv hR hrl hrf⊢
  obtain⟨RES,hRES⟩: ∃R,enc (trimZ ((l1 rs).foldl step2 []))=R:=⟨_,rfl⟩
  rw[hRES]
  have HRES:=Lib.hid hRES
  have hll:=l1_len rs
  have hlf:=l1_fit hrf
  obtain⟨n,hn⟩: ∃n,rs.length=n:=⟨_,rfl⟩
  rw[hn] at hcv hR hrl hll
  have HN0:=Lib.hid hn
  have HR:=Lib.hid hR
  have HF:=Lib.hid hrf
  have HLF:=Lib.hid hlf
  have HB1:=Lib.hid hb1
  clear hfin hrs hRES hn hR hrf hlf hb1
  go_enter Try.func29,Try.ntmps29
  go_wp2_with (simp only[hcv])
  go_loopw [3,5,6] (fun t3 t5 _ wr=>∃k:Nat,k≤n∧t5=.int .i64 k∧wr.ownsRow W1.heap.size 21 1 t3 (l1 (rs.take k)).length (rvals (l1 (rs.take k)))∧Below W1.heap.size W1 wr) (fun _ t5 _ _=>n - (intOf t5).toNat)
  case atStart=>exact⟨0,by omega,rfl,World.ownsRow_nil _ _ _ _,Below.refl _ _⟩
  case round=>
    obtain⟨k,hk,rfl,hown,hbw⟩:=hrel
    by_cases hlt:k<n
    · obtain⟨b,off,hA,_,hcl⟩:=(HR.out.below hbw).2.2 (by omega)
      cases hA
      have hc1:=hcl k hlt
      rw[Nat.zero_add] at hc1
      obtain⟨r,hr⟩: ∃r,rs.getD k 0=r:=⟨_,rfl⟩
      have hrb:=HF.out.getD k
      rw[hr] at hc1 hrb
      obtain⟨hr0,hr1⟩:=hrb
      have ht:=take_next (ys:=rs) (k:=k) (by rw[HN0.out];exact hlt) hr
      have hnext:l1 (rs.take (k+1))=l1 (rs.take k)++f1 r:=by rw[ht,l1_app,l1_one]
      have hol:=l1_len (rs.take k)
      rw[List.length_take] at hol
      obtain⟨O,hO⟩: ∃O,l1 (rs.take k)=O:=⟨_,rfl⟩
      rw[hO] at hnext hol hown
      have hOn:O.length≤8796093022208:=by omega
      have hBz:=hbw.size
      clear hcl hr ht hO hol
      have hk0:(0:Int)≤(k:Int):=by omega
      have hkn:(k:Int)<n:=by omega
      have hwk:IntKind.i64.wrap ((k:Int)+1)=(k:Int)+1:=IntWalk.i64_in _ (by omega)
      rcases kindw r with hk1 |hk1 |hk1 |hk1
      · have d1:decide (Noth r)=true:=decide_eq_true (k1_noth hk1)
        have e1:l1 (rs.take (k+1))=O:=by rw[hnext];simp[f1,hk1]
        have HN:=Lib.hid e1
        have D1:=Lib.hid d1
        clear d1 e1 hnext hk1
        go_wp2_with fail
        refine(noth_at _ _ _ D1.out).mono ?_
        rintro e w' ⟨rfl,rfl⟩
        go_wp2
        go_roundw
        case rel=>exact⟨k+1,by omega,by go_num,by rw[HN.out];exact hown,hbw⟩
        case measure=>simp[intOf];omega
      · have hb2:=k2_blank hk1
        have d1:decide (Noth r)=false:=decide_eq_false (by unfold Noth;unfold Blank at hb2;omega)
        have d2:decide (Great r)=false:=decide_eq_false (by unfold Great;unfold Blank at hb2;omega)
        have d3:decide (Blank r)=true:=decide_eq_true hb2
        have e1:l1 (rs.take (k+1))=O++[32]:=by rw[hnext];simp[f1,hk1]
        have HN:=Lib.hid e1
        have D1:=Lib.hid d1
        have D2:=Lib.hid d2
        have D3:=Lib.hid d3
        clear d1 d2 d3 e1 hnext hk1 hb2
        go_wp2_with fail
        refine(noth_at _ _ _ D1.out).mono ?_
        rintro e w' ⟨rfl,rfl⟩
        go_wp2_with fail
        refine(great_at _ _ _ D2.out).mono ?_
        rintro e w' ⟨rfl,rfl⟩
        go_wp2_with fail
        refine(blank_at _ _ _ D3.out).mono ?_
        rintro e w' ⟨rfl,rfl⟩
        go_wp2_with (at_builtin;refine wpl_rapp rfl (.tmp 29) (.tmp 31) 53 rfl W1.heap.size 21 i0 (.int .i32 0) Try.underlying53 hi0 hz0 hz1 hz2 rfl u3 O.length (rvals O) rfl (hown.alloc _) (some ⟨wr.heap.size,0,none⟩) 1 1 [32] rfl (rns_new (by omega)) (by omega) (by simp;omega) ?_;intro v2 w2 ho hg _)
        obtain⟨hown',hbw'⟩:=own_nextR hbw hown (zs:=l1 (rs.take (k+1))) HN.out rfl ho hg
        clear ho hg hown hbw
        go_roundw
        case rel=>exact⟨k+1,by omega,by go_num,hown',hbw'⟩
        case measure=>simp[intOf];omega
      · have hb2:=kind3_great hk1
        have d1:decide (Noth r)=false:=decide_eq_false (by unfold Noth;unfold Great at hb2;omega)
        have d2:decide (Great r)=true:=decide_eq_true hb2
        have d3:decide (Blank (r+32))=false:=decide_eq_false (by unfold Blank;unfold Great at hb2;omega)
        have hr2:r+32≤1114111:=by unfold Great at hb2;omega
        have hr3:0≤r+32:=by omega
        have hw:IntKind.i32.wrap (r+32)=r+32:=IntWalk.i32_in _ (by omega)
        have e1:l1 (rs.take (k+1))=O++[r+32]:=by rw[hnext];simp[f1,hk1]
        have HN:=Lib.hid e1
        have D1:=Lib.hid d1
        have D2:=Lib.hid d2
        have D3:=Lib.hid d3
        clear d1 d2 d3 e1 hnext hk1 hb2
        go_wp2_with fail
        refine(noth_at _ _ _ D1.out).mono ?_
        rintro e w' ⟨rfl,rfl⟩
        go_wp2_with fail
        refine(great_at _ _ _ D2.out).mono ?_
        rintro e w' ⟨rfl,rfl⟩
        go_wp2_with fail
        refine(blank_at _ _ _ D3.out).mono ?_
        rintro e w' ⟨rfl,rfl⟩
        go_wp2_with (at_builtin;refine wpl_rapp rfl (.tmp 29) (.tmp 31) 53 rfl W1.heap.size 21 i0 (.int .i32 0) Try.underlying53 hi0 hz0 hz1 hz2 rfl u3 O.length (rvals O) rfl (hown.alloc _) (some ⟨wr.heap.size,0,none⟩) 1 1 [r+32] rfl (rns_new (by omega)) (by omega) (by simp;omega) ?_;intro v2 w2 ho hg _)
        obtain⟨hown',hbw'⟩:=own_nextR hbw hown (zs:=l1 (rs.take (k+1))) HN.out rfl ho hg
        clear ho hg hown hbw
        go_roundw
        case rel=>exact⟨k+1,by omega,by go_num,hown',hbw'⟩
        case measure=>simp[intOf];omega
      · obtain⟨c1,c2,c3⟩:=k0_none hk1
        have d1:decide (Noth r)=false:=decide_eq_false c1
        have d2:decide (Great r)=false:=decide_eq_false c3
        have d3:decide (Blank r)=false:=decide_eq_false c2
        have e1:l1 (rs.take (k+1))=O++[r]:=by rw[hnext];simp[f1,hk1]
        have HN:=Lib.hid e1
        have D1:=Lib.hid d1
        have D2:=Lib.hid d2
        have D3:=Lib.hid d3
        clear d1 d2 d3 e1 hnext hk1 c1 c2 c3
        go_wp2_with fail
        refine(noth_at _ _ _ D1.out).mono ?_
        rintro e w' ⟨rfl,rfl⟩
        go_wp2_with fail
        refine(great_at _ _ _ D2.out).mono ?_
        rintro e w' ⟨rfl,rfl⟩
        go_wp2_with fail
        refine(blank_at _ _ _ D3.out).mono ?_
        rintro e w' ⟨rfl,rfl⟩
        go_wp2_with (at_builtin;refine wpl_rapp rfl (.tmp 29) (.tmp 31) 53 rfl W1.heap.size 21 i0 (.int .i32 0) Try.underlying53 hi0 hz0 hz1 hz2 rfl u3 O.length (rvals O) rfl (hown.alloc _) (some ⟨wr.heap.size,0,none⟩) 1 1 [r] rfl (rns_new (by omega)) (by omega) (by simp;omega) ?_;intro v2 w2 ho hg _)
        obtain⟨hown',hbw'⟩:=own_nextR hbw hown (zs:=l1 (rs.take (k+1))) HN.out rfl ho hg
        clear ho hg hown hbw
        go_roundw
        case rel=>exact⟨k+1,by omega,by go_num,hown',hbw'⟩
        case measure=>simp[intOf];omega
    · obtain rfl:k=n:=by omega
      have hall:rs.take k=rs:=List.take_of_length_le (by rw[HN0.out];exact Nat.le_refl _)
      rw[hall] at hown
      clear hall
      obtain⟨L,hL⟩: ∃L,l1 rs=L:=⟨_,rfl⟩
      rw[hL] at hown hll HRES HLF
      have hBw:=then_ HB1.out (hbw.mono (Nat.le_refl _))
      clear hL hbw
      obtain⟨A3,c3,rfl,hc31,hc32,_⟩:=own_shape hown
      have hR3:=Rns.own hown HLF.out
      obtain⟨m,hm⟩: ∃m,L.length=m:=⟨_,rfl⟩
      rw[hm] at hown hll hR3 hc31⊢
      have HM:=Lib.hid hm
      have HR3:=Lib.hid hR3
      have HBW:=Lib.hid hBw
      clear hown hm hR3 hBw hcv
      obtain⟨W2,rfl⟩: ∃W2,W2=wr:=⟨_,rfl⟩
      go_wp2_with fail
      go_loopw [7,8] (fun t7 t8 wr=>∃j:Nat,j≤m∧t8=.int .i64 j∧wr.ownsRow W2.heap.size 21 1 t7 ((L.take j).foldl step2 []).length (rvals ((L.take j).foldl step2 []))∧Below W2.heap.size W2 wr) (fun _ t8 _=>m - (intOf t8).toNat)
      case atStart=>exact⟨0,by omega,rfl,World.ownsRow_nil _ _ _ _,Below.refl _ _⟩
      case round=>
        obtain⟨k,hk,rfl,hown,hbw⟩:=hrel
        obtain⟨A7,c7,rfl,hc71,hc72,hA7⟩:=own_shape hown
        by_cases hlt:k<m
        · obtain⟨b,off,rfl,_,hcl⟩:=(HR3.out.below hbw).2.2 (by omega)
          have hc1:=hcl k hlt
          obtain⟨C,hC⟩: ∃C,L.getD k 0=C:=⟨_,rfl⟩
          have hCb:=HLF.out.getD k
          rw[hC] at hc1 hCb
          obtain⟨hCb0,hCb1⟩:=hCb
          have ht:=take_next (ys:=L) (k:=k) (by rw[HM.out];exact hlt) hC
          have hnext:(L.take (k+1)).foldl step2 []=step2 ((L.take k).foldl step2 []) C:=by rw[ht,List.foldl_append];rfl
          have hol:=fold2_len (L.take k) []
          rw[List.length_take] at hol
          have hof:FitR ((L.take k).foldl step2 []):=fold2_fit _ _ (fun x hx=>HLF.out x (List.mem_of_mem_take hx)) (fun x hx=>by cases hx)
          obtain⟨O,hO⟩: ∃O,(L.take k).foldl step2 []=O:=⟨_,rfl⟩
          rw[hO] at hnext hol hown hof hc71 hA7⊢
          have hOn:O.length≤8796093022208:=by simp at hol;omega
          have hBz:=hbw.size
          clear hcl hC ht hO hol
          have hk0:(0:Int)≤(k:Int):=by omega
          have hkn:(k:Int)<m:=by omega
          have hwk:IntKind.i64.wrap ((k:Int)+1)=(k:Int)+1:=IntWalk.i64_in _ (by omega)
          by_cases hz:C=32
          · subst hz
            by_cases h0:O=[]
            · subst h0
              have e1:(L.take (k+1)).foldl step2 []=[]:=by rw[hnext];simp[step2]
              have HN:=Lib.hid e1
              clear e1 hnext hA7
              go_wp2
              go_roundw
              case rel=>exact⟨k+1,by omega,by go_num,by rw[HN.out];exact hown,hbw⟩
              case measure=>simp[intOf];omega
            · obtain⟨P,hP⟩: ∃P,O.length=P+1:=⟨O.length - 1,by have:O.length≠0:=fun h=>h0 (List.eq_nil_of_length_eq_zero h);omega⟩
              obtain⟨g,rfl,hg1,hg2⟩:=hA7 P (by omega)
              have hcz:=(hown.cellAt P (by omega))
              have hZ:(rvals O)[P]? =some (.int .i32 (lastZ O)):=by
                unfold lastZ
                rw[hP,Nat.add_sub_cancel]
                simp[rvals,List.getD_eq_getElem?_getD,List.getElem?_eq_getElem (show P<O.length by omega)]
              rw[hZ] at hcz
              obtain⟨Z,hZ2⟩: ∃Z,lastZ O=Z:=⟨_,rfl⟩
              rw[hZ2] at hcz
              obtain⟨q,hq⟩: ∃q,O.length=q:=⟨_,rfl⟩
              have hw1:IntKind.i64.wrap ((q:Int) - 1)=(P:Int):=by rw[IntWalk.i64_in _ (by omega)];omega
              have hq0:((q:Int)==0)=false:=by simp;omega
              have hP0:(0:Int)≤(P:Int):=by omega
              have hPq:(P:Int)<q:=by omega
              have hPq':P<q:=by omega
              by_cases hzz:Z=32
              · subst hzz
                have e1:(L.take (k+1)).foldl step2 []=O:=by rw[hnext];unfold step2;exact if_pos ⟨rfl,.inr hZ2⟩
                have HN:=Lib.hid e1
                have HQ:=Lib.hid hq
                rw[hq]
                clear e1 hnext hA7 hZ hZ2 hP h0 hq
                go_wp2
                go_roundw
                case rel=>exact⟨k+1,by omega,by go_num,by rw[HN.out,HQ.out];rw[HQ.out] at hown;exact hown,hbw⟩
                case measure=>simp[intOf];omega
              · have hzb:(Z==32)=false:=by simpa using hzz
                have e1:(L.take (k+1)).foldl step2 []=O++[32]:=by rw[hnext];unfold step2;exact if_neg (fun h=>h.2.elim h0 (fun h=>hzz (hZ2.symm.trans h)))
                have HN:=Lib.hid e1
                have HQ:=Lib.hid hq
                have hownq:wr.ownsRow W2.heap.size 21 1 (.slice (some ⟨g,0,none⟩) q c7) q (rvals O):=by rw[←hq];exact hown
                have hqb:q≤8796093022208:=by omega
                rw[hq]
                clear e1 hnext hA7 hZ hZ2 hP h0 hq
                go_wp2_with (at_builtin;refine wpl_rapp rfl (.tmp 58) (.tmp 63) 53 rfl W2.heap.size 21 i0 (.int .i32 0) Try.underlying53 hi0 hz0 hz1 hz2 rfl (.slice (some ⟨g,0,none⟩) q c7) q (rvals O) rfl (hownq.alloc _) (some ⟨wr.heap.size,0,none⟩) 1 1 [32] rfl (rns_new (by omega)) (by omega) (by simp;omega) ?_;intro v2 w2 ho hg _)
                obtain⟨hown',hbw'⟩:=own_nextR hbw hown (zs:=(L.take (k+1)).foldl step2 []) HN.out (ys:=[32]) (by rw[HQ.out];rfl) ho hg
                clear ho hg hown hbw
                go_roundw
                case rel=>exact⟨k+1,by omega,by go_num,hown',hbw'⟩
                case measure=>simp[intOf];omega
          · have hzb:(C==32)=false:=by simpa using hz
            have e1:(L.take (k+1)).foldl step2 []=O++[C]:=by rw[hnext];unfold step2;exact if_neg (fun h=>hz h.1)
            have HN:=Lib.hid e1
            clear e1 hnext hA7
            go_wp2_with (at_builtin;refine wpl_rapp rfl (.tmp 58) (.tmp 63) 53 rfl W2.heap.size 21 i0 (.int .i32 0) Try.underlying53 hi0 hz0 hz1 hz2 rfl (.slice A7 O.length c7) O.length (rvals O) rfl (hown.alloc _) (some ⟨wr.heap.size,0,none⟩) 1 1 [C] rfl (rns_new (by omega)) (by omega) (by simp;omega) ?_;intro v2 w2 ho hg _)
            obtain⟨hown',hbw'⟩:=own_nextR hbw hown (zs:=(L.take (k+1)).foldl step2 []) HN.out (ys:=[C]) rfl ho hg
            clear ho hg hown hbw
            go_roundw
            case rel=>exact⟨k+1,by omega,by go_num,hown',hbw'⟩
            case measure=>simp[intOf];omega
        · obtain rfl:k=m:=by omega
          have hall:L.take k=L:=List.take_of_length_le (by rw[HM.out];exact Nat.le_refl _)
          have hof:FitR (L.foldl step2 []):=fold2_fit _ _ HLF.out (fun x hx=>by cases hx)
          have hol:=fold2_len L []
          rw[hall] at hown hc71 hA7⊢
          obtain⟨O,hO⟩: ∃O,L.foldl step2 []=O:=⟨_,rfl⟩
          rw[hO] at hown hc71 hA7 hof hol HRES⊢
          have hR7:=Rns.own hown hof
          have hBB:=then_ HBW.out (hbw.mono (Nat.le_refl _))
          have hOn:O.length≤8796093022208:=by rw[HM.out] at hol;simp at hol;omega
          clear hall hO hol hown hbw
          by_cases h0:O=[]
          · subst h0
            have hcv2:(convert 53 9 (.slice A7 0 c7)).run Try.prog wr=.ok (.string ⟨(enc []).toArray⟩) wr:=run_rune_str (P:=Try.prog) _ _ 21 Try.underlying53 Try.underlying21 Try.underlying9 A7 0 c7 [] hR7
            have hre:enc []=RES:=by rw[←HRES.out];rfl
            rw[hre] at hcv2
            clear hR7 hA7 hre
            go_wp2_with (simp only[hcv2])
            go_ret
            exact⟨rfl,hBB⟩
          · obtain⟨P,hP⟩: ∃P,O.length=P+1:=⟨O.length - 1,by have:O.length≠0:=fun h=>h0 (List.eq_nil_of_length_eq_zero h);omega⟩
            obtain⟨g,rfl,hg1,hg2⟩:=hA7 P (by omega)
            have hcz:wr.cell? ⟨g,P,none⟩=some (.int .i32 (lastZ O)):=by
              obtain⟨b,off,e,_,hcl⟩:=hR7.2.2 (by omega)
              cases e
              have:=hcl P (by omega)
              rw[Nat.zero_add] at this
              rw[this];unfold lastZ;rw[hP,Nat.add_sub_cancel]
            obtain⟨Z,hZ2⟩: ∃Z,lastZ O=Z:=⟨_,rfl⟩
            rw[hZ2] at hcz
            obtain⟨q,hq⟩: ∃q,O.length=q:=⟨_,rfl⟩
            have hw1:IntKind.i64.wrap ((q:Int) - 1)=(P:Int):=by rw[IntWalk.i64_in _ (by omega)];omega
            have hq0:(0:Int)< (q:Int):=by omega
            have hP0:(0:Int)≤(P:Int):=by omega
            have hPq:(P:Int)<q:=by omega
            have hPq':P<q:=by omega
            have hPc:P≤c7:=by omega
            have hPc':(P:Int)≤c7:=by omega
            by_cases hzz:Z=32
            · subst hzz
              have hcv2:=run_rune_str (P:=Try.prog) 53 9 21 Try.underlying53 Try.underlying21 Try.underlying9 _ P c7 (O.take P) (hR7.upto (by omega))
              have hre:enc (O.take P)=RES:=by rw[←HRES.out];unfold trimZ;rw[if_pos ⟨by omega,hZ2⟩,hP,Nat.add_sub_cancel]
              rw[hre] at hcv2
              rw[hq]
              clear hR7 hA7 hre hP hZ2 h0 hq
              go_wp2_with (simp only[hcv2])
              go_ret
              exact⟨rfl,hBB⟩
            · have hzb:(Z==32)=false:=by simpa using hzz
              have hcv2:=run_rune_str (P:=Try.prog) 53 9 21 Try.underlying53 Try.underlying21 Try.underlying9 _ O.length c7 O hR7
              have hre:enc O=RES:=by rw[←HRES.out];unfold trimZ;rw[if_neg (fun h=>hzz (hZ2.symm.trans h.2))]
              rw[hre,hq] at hcv2
              rw[hq]
              clear hR7 hA7 hre hP hZ2 h0 hq
              go_wp2_with (simp only[hcv2])
              go_ret
              exact⟨rfl,hBB⟩
end Go.Proofs.Ytclmaglkekkigaa.txc
