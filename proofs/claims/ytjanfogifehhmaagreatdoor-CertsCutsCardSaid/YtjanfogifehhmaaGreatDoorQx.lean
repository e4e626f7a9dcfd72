/- A certificate's bytes, cut, or with more behind: what is plain, and the appends. -/
import Derived.Test.YtjanfogifehhmaaGreatDoorQj
import Derived.Test.YtjanfogifehhmaaGreatDoorQk
import Derived.Test.YtjanfogifehhmaaGreatDoorQs
import Derived.Deep.DeepAppendWide
set_option maxRecDepth 100000
set_option maxHeartbeats 32000000
set_option linter.unusedVariables false
set_option linter.unusedSimpArgs false
namespace Go.Proofs.YtjanfogifehhmaaGreatDoor.nmc
open Go.ChangeShapes Go.WideShapes Go.ChangeAt Go.RowKit Go.Proofs.YtjanfogifehhmaaGreatDoor Go.Proofs.YtjanfogifehhmaaGreatDoor.tlvc Go.Proofs.YtjanfogifehhmaaGreatDoor.tlvd Go.Proofs.YtjanfogifehhmaaGreatDoor.ndc Go.Proofs.YtjanfogifehhmaaGreatDoor.txc Go.Proofs.YtjanfogifehhmaaGreatDoor.intc Go.Proofs.YtjanfogifehhmaaGreatDoor.vtc Go.Proofs.YtjanfogifehhmaaGreatDoor.intm Go.Proofs.YtjanfogifehhmaaGreatDoor.txm
theorem run_app_wide {P:Program}(w:World)(base:Nat)(t ty e:TypeId)(i:TypeInfo)(z:Value)(ht:P.underlying t=some (.slice e))(hi:P.info? e=some i)(hz:i.zero=some z)
 (hsize:i.size=1) (hby:i.bytes=1) (hzs:z.cells.size=1)
 (v:Value) (n:Nat) (xs:List Value) (hown:w.ownsRow base e 1 v n xs)
 (A:Option Addr) (m c:Nat) (ys:List Int) (hb:Bys w A m ys) (hbnd:n+m≤200000000000000) (hbase:base≤w.heap.size):
 ∃v' w',(Builtin.append_ #[t,t] ty #[v,.slice A m c]).run P w=.ok v' w'∧w'.ownsRow base e 1 v' (n+m) (xs++vals ys)∧w.grownBy w' v.ownBlock:=by
 have hmax:n+m≤maxLen:=by unfold maxLen;omega
 rcases A with _ |ad
 ·have hm:m=0:=by
   rcases Nat.eq_zero_or_pos m with h0 |h0
   ·exact h0
   ·obtain⟨b,off,h,_⟩:=hb.2.2 h0
    cases h
  subst hm
  have hn:ys=[]:=List.eq_nil_of_length_eq_zero hb.1
  subst hn
  exact⟨v,w,run_app_nil w base t ty e i ht hi v n xs hown c,by simpa[vals] using hown,World.grownBy.refl w _⟩
 ·have hcells: ∀j u,(vals ys)[j]? =some u→w.cell? (ad.add j)=some u:=by
   intro j u hu
   have hj:j<ys.length:=by
    have:=(List.getElem?_eq_some_iff.1 hu).1
    rwa[vals_length] at this
   obtain⟨b,off,h,_,hc⟩:=hb.2.2 (by have:=hb.1;omega)
   cases h
   rw[Addr.add_lit,hc j (by have:=hb.1;omega),←hu]
   simp[vals,List.getD_eq_getElem?_getD,List.getElem?_eq_getElem hj]
  obtain⟨v',w',h1,h2,h3,_⟩:=run_append_own_wide (P:=P) w base t ty e i z 1 1 ht hi hz hsize hby hzs (by decide) v n xs hown ad m c (vals ys) (by rw[vals_length,hb.1];omega) hcells (vals_one ys) hmax (by omega) hbase
  exact⟨v',w',h1,h2,h3⟩
theorem join2 (w:World)(A A2:Option Addr)(n c m c2:Nat)(xs ys:List Int)(hx:Bys w A n xs)(hy:Bys w A2 m ys)(hn:n+m≤200000000000000): ∃v1 w1 B k w2,
 (Builtin.append_ #[34,34] 34 #[.slice (some ⟨w.heap.size,0,none⟩) 0 0,.slice A n c]).run Tryz.prog (w.alloc (.cells #[] 5))=.ok v1 w1∧
 (Builtin.append_ #[34,34] 34 #[v1,.slice A2 m c2]).run Tryz.prog w1=.ok (.slice B (n+m) k) w2∧Bys w2 B (n+m) (xs++ys)∧n+m≤k∧k≤maxLen∧Below w.heap.size w w2:=by
 obtain⟨i0,hi,hz0,hz1,hz2⟩:=info_parts intc.Tryz.info5
 have hb0:=below_new w (.cells #[] 5)
 have hown0:(w.alloc (.cells #[] 5)).ownsRow w.heap.size 5 1 (.slice (some ⟨w.heap.size,0,none⟩) 0 0) 0 []:=⟨rfl,.inr ⟨w.heap.size,0,#[],rfl,lr_ _,heap_new_ _ _,lr_ _,Nat.zero_le _,rfl,rfl⟩⟩
 obtain⟨v1,w1,h1,hown1,hg1⟩:=run_app_wide (P:=Tryz.prog) _ w.heap.size 34 34 5 i0 (.int .u8 0) Tryz.underlying34 hi hz0 hz1 hz2 rfl _ 0 [] hown0 A n c xs (hx.below hb0) (by omega) hb0.size
 have hb1:Below w.heap.size w w1:=hb0.grown hg1 hb0.size (fun k hk=>by cases hk;exact lr_ _)
 rw[Nat.zero_add,List.nil_append] at hown1
 obtain⟨v2,w2,h2,hown2,hg2⟩:=run_app_wide (P:=Tryz.prog) w1 w.heap.size 34 34 5 i0 (.int .u8 0) Tryz.underlying34 hi hz0 hz1 hz2 rfl v1 n (vals xs) hown1 A2 m c2 ys (hy.below hb1) hn hb1.size
 have hb2:Below w.heap.size w w2:=hb1.grown hg2 hb1.size (fun k hk=>(hown1.lt k hk).1)
 obtain⟨B,k,rfl,hk1,hk2,_⟩:=own_shape hown2
 have hv:vals xs++vals ys=vals (xs++ys):=(List.map_append ..).symm
 rw[hv] at hown2
 exact⟨v1,w1,B,k,w2,h1,h2,Bys.own hown2 (hx.fit.app hy.fit),hk1,hk2,hb2⟩
theorem cut_res {c:Ce}{B:List Int}(h:putC c=.ok B){T:Nat}(hT:T<B.length): ∃er,getRes (B.take T)=(none,er)∧er≠0:=by
 have g:writeF (.mk 48 [] [bodyC c,hNd c.sig]) 0=.ok B:=by
  unfold putC at h
  split at h
  ·exact h
  ·cases h
 obtain⟨a,e,hr⟩:=read_cut g T hT
 refine⟨e,?_,readAll_ne hr⟩
 unfold getRes
 rw[hr]
theorem more_res {c:Ce}{B more:List Int}(h:putC c=.ok B)(hm:0<more.length): ∃er,getRes (B++more)=(none,er)∧er≠0:=by
 have g:writeF (.mk 48 [] [bodyC c,hNd c.sig]) 0=.ok B:=by
  unfold putC at h
  split at h
  ·exact h
  ·cases h
 obtain⟨a,e,hr⟩:=read_more g hm
 refine⟨e,?_,readAll_ne hr⟩
 unfold getRes
 rw[hr]
theorem putC_size {c:Ce}{B:List Int}(h:putC c=.ok B):0<B.length∧B.length≤65539:=by
 have g:writeF (.mk 48 [] [bodyC c,hNd c.sig]) 0=.ok B:=by
  unfold putC at h
  split at h
  ·exact h
  ·cases h
 exact put_pos g
theorem cut_nums {a:Int}{n:Nat}(ha:0≤a∧a≤4294967295)(h0:0<n)(h1:n≤65539): ∃T:Nat,T<n∧IntKind.u32.wrap (n:Int)=(n:Int)∧(n:Int)%4294967296=(n:Int)∧Int.tmod a (n:Int)=(T:Int)∧IntKind.u32.wrap (T:Int)=(T:Int)∧(T:Int)%4294967296=(T:Int)∧IntKind.i64.wrap (T:Int)=(T:Int)∧wrap64 (T:Int)=(T:Int)∧((n:Int)==0)=false∧¬(n:Int)=0:=by
 obtain⟨T,hT⟩: ∃T:Nat,a% (n:Int)=T:=Int.eq_ofNat_of_zero_le (Int.emod_nonneg _ (by omega))
 have hTn:T<n:=by have:=Int.emod_lt_of_pos a (show(0:Int)<n by omega);omega
 have g4:Int.tmod a (n:Int)=(T:Int):=(Int.tmod_eq_emod_of_nonneg ha.1).trans hT
 have hb:0≤(T:Int)∧(T:Int)≤65539:=by clear hT g4;omega
 have hc:0≤(n:Int)∧(n:Int)≤65539:=by clear hT g4;omega
 have w: ∀x:Int,0≤x∧x≤65539→wrap64 x=x:=fun x hx=>by unfold wrap64;omega
 have k: ∀x:Int,0≤x∧x≤65539→IntKind.i64.wrap x=x:=fun x hx=>by rw[IntKind.wrap_i64]<;>omega
 have m: ∀x:Int,0≤x∧x≤65539→x%4294967296=x:=fun x hx=>by omega
 have u: ∀x:Int,0≤x∧x≤65539→IntKind.u32.wrap x=x:=fun x hx=>by rw[IntKind.wrap_u32];omega
 refine⟨T,hTn,u _ hc,m _ hc,g4,u _ hb,m _ hb,k _ hb,w _ hb,?_,?_⟩
 all_goals clear hT g4
 ·rw[beq_eq_false_iff_ne];omega
 ·omega
end Go.Proofs.YtjanfogifehhmaaGreatDoor.nmc
