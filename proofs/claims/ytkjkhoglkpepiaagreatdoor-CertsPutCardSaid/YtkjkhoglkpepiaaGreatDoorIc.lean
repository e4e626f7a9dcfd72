/- Plain facts on the bodies of objects: digits of seven bits.  -/
import Derived.WalkKit
import Derived.Test.YtkjkhoglkpepiaaGreatDoorIa
import Derived.Test.YtkjkhoglkpepiaaGreatDoorIb
import Derived.Test.YtkjkhoglkpepiaaGreatDoorKa
import Derived.StillTailTactics
set_option maxRecDepth 100000
set_option maxHeartbeats 1000000
set_option linter.unusedVariables false
set_option linter.unusedSimpArgs false
namespace Go.Proofs.YtkjkhoglkpepiaaGreatDoor.intm
open Go.RowKit
theorem head_app {xs ys:List Int}(h:xs≠[]):(xs++ys).head?=xs.head?:=by
 cases xs with
 |nil=>exact absurd rfl h
 |cons x r=>rfl
def hiF:Nat→Int→List Int
 |0,_=>[]
 |k+1,n=>if n<1 then [] else hiF k (n/ 128)++[n%128+128]
theorem hiF_more (k:Nat): ∀n:Int,0≤n→n<128^k→hiF (k+1) n=hiF k n:=by
 induction k with
 |zero=>intro n h0 h;have:n=0:=by simp at h;omega
        subst this;rfl
 |succ k ih=>
  intro n h0 h
  have e1:hiF (k+1+1) n=if n<1 then [] else hiF (k+1) (n/ 128)++[n%128+128]:=rfl
  have e2:hiF (k+1) n=if n<1 then [] else hiF k (n/ 128)++[n%128+128]:=rfl
  rw[e1,e2,ih (n/ 128) (by omega) (by rw[Int.pow_succ] at h;omega)]
def hi (n:Int):List Int:=hiF 4 n
theorem hi_zero:hi 0=[]:=rfl
theorem hi_step {n:Int}(h1:1≤n)(h:n<268435456):hi n=hi (n/ 128)++[n%128+128]:=by
 unfold hi
 rw[hiF,if_neg (by omega),←hiF_more 3 (n/ 128) (by omega) (by omega)]
theorem hiF_ge (k:Nat): ∀n:Int,∀x∈hiF k n,128≤x∧x≤255:=by
 induction k with
 |zero=>intro n x hx;simp[hiF] at hx
 |succ k ih=>
  intro n x hx
  rw[hiF] at hx
  split at hx
  ·simp at hx
  ·rcases List.mem_append.1 hx with h |h
   ·exact ih _ x h
   ·simp at h;omega
theorem hi_ge {n:Int}: ∀x∈hi n,128≤x∧x≤255:=hiF_ge 4 n
theorem hiF_length (k:Nat): ∀n:Int,(hiF k n).length≤k:=by
 induction k with
 |zero=>intro n;simp[hiF]
 |succ k ih=>
  intro n
  rw[hiF]
  split
  ·simp
  ·have:=ih (n/ 128);simp;omega
theorem hi_head {n:Int}(h0:0≤n)(h:n<268435456):(hi n).head?≠some 128:=by
 have key: ∀k,∀n:Int,0≤n→n<128^k→(hiF k n).head?≠some 128:=by
  intro k
  induction k with
  |zero=>intro n _ _;simp[hiF]
  |succ k ih=>
   intro n h0 h
   rw[hiF]
   split
   ·simp
   ·by_cases h2:n/ 128<1
    ·have e:hiF k (n/ 128)=[]:=by cases k with
      |zero=>rfl
      |succ k=>rw[hiF,if_pos h2]
     rw[e];simp;omega
    ·have hne:hiF k (n/ 128)≠[]:=by
      cases k with
      |zero=>simp at h;omega
      |succ k=>rw[hiF,if_neg h2];simp
     rw[head_app hne]
     exact ih _ (by omega) (by rw[Int.pow_succ] at h;omega)
 exact key 4 n h0 (by omega)
def digs (n:Int):List Int:=hi (n/ 128)++[n%128]
def Arc (n:Int):Prop:=0≤n∧n≤268435455
theorem digs_bytes (n:Int): ∀x∈digs n,0≤x∧x≤255:=by
 intro x hx
 rcases List.mem_append.1 hx with h |h
 ·have:=hi_ge x h;omega
 ·simp at h;omega
theorem digs_length {n:Int}(h:Arc n):1≤(digs n).length∧(digs n).length≤4:=by
 unfold Arc at h
 have e:hi (n/ 128)=hiF 3 (n/ 128):=hiF_more 3 _ (by omega) (by omega)
 have:=hiF_length 3 (n/ 128)
 unfold digs
 rw[e];simp;omega
theorem digs_ne (n:Int):digs n≠[]:=by simp[digs]
def val (xs:List Int):Int:=xs.foldl (fun a x=>a*128+x%128) 0
theorem val_snoc (xs:List Int)(x:Int):val (xs++[x])=val xs*128+x%128:=by simp[val]
theorem val_hiF (k:Nat): ∀n:Int,0≤n→n<128^k→val (hiF k n)=n:=by
 induction k with
 |zero=>intro n h0 h;simp at h;simp[hiF,val];omega
 |succ k ih=>
  intro n h0 h
  rw[hiF]
  split
  ·simp[val];omega
  ·rw[val_snoc,ih (n/ 128) (by omega) (by rw[Int.pow_succ] at h;omega)]
   omega
theorem val_hi {n:Int}(h0:0≤n)(h:n<268435456):val (hi n)=n:=val_hiF 4 n h0 h
theorem val_digs {n:Int}(h:Arc n):val (digs n)=n:=by
 unfold Arc at h
 unfold digs
 rw[val_snoc,val_hi (by omega) (by omega)]
 omega
theorem val_from (ys:List Int): ∀a:Int,0≤a→a≤ys.foldl (fun a x=>a*128+x%128) a:=by
 induction ys with
 |nil=>intro a _;simp
 |cons y r ih=>
  intro a h
  have:=ih (a*128+y%128) (by omega)
  simp only[List.foldl_cons]
  omega
theorem val_nonneg (xs:List Int):0≤val xs:=val_from xs 0 (by omega)
theorem val_mono (xs ys:List Int):val xs≤val (xs++ys):=by
 unfold val
 rw[List.foldl_append]
 exact val_from ys _ (val_nonneg xs)
theorem hi_val (k:Nat): ∀xs:List Int,xs.length=k→(∀x∈xs,128≤x∧x≤255)→xs.head?≠some 128→val xs<268435456→xs=hi (val xs)∧(xs≠[]→1≤val xs):=by
 induction k with
 |zero=>intro xs hl _ _ _;rw[List.eq_nil_of_length_eq_zero hl];exact⟨rfl,fun h=>absurd rfl h⟩
 |succ k ih=>
  intro xs hl hx hh hv
  have hne:xs≠[]:=by intro e;rw[e] at hl;simp at hl
  have he:=List.dropLast_concat_getLast hne
  have hc:=hx _ (List.getLast_mem hne)
  obtain⟨ys,hys⟩:=nm_ (xs.dropLast)
  obtain⟨c,hcc⟩:=nm_ (xs.getLast hne)
  rw[hys,hcc] at he
  rw[hcc] at hc
  have hyx: ∀y∈ys,128≤y∧y≤255:=fun y hy=>hx y (List.dropLast_subset _ (by rw[hys];exact hy))
  have hyl:ys.length=k:=by rw[←hys,List.length_dropLast];omega
  rw[←he] at hh hv⊢
  rw[val_snoc] at hv⊢
  have hn:=val_nonneg ys
  by_cases h0:ys=[]
  ·subst h0
   have hc0:c≠128:=by simpa using hh
   have e:val []=0:=rfl
   rw[e]
   refine⟨?_,fun _=>by omega⟩
   rw[hi_step (by omega) (by omega)]
   have e2:(0*128+c%128) / 128=0:=by omega
   rw[e2,hi_zero]
   simp;omega
  ·have:=ih ys hyl hyx (by rwa[head_app h0] at hh) (by omega)
   have h1:=this.2 h0
   refine⟨?_,fun _=>by omega⟩
   rw[hi_step (by omega) (by omega)]
   have e1:(val ys*128+c%128) / 128=val ys:=by omega
   have e2:(val ys*128+c%128)%128+128=c:=by omega
   rw[e1,e2,←this.1]
theorem hi_cut {m:Int}{zs ps qs:List Int}(h:digs m++zs=ps++qs)(hp: ∀x∈ps,128≤x): ∃us,hi (m/ 128)=ps++us:=by
 unfold digs at h
 rw[List.append_assoc] at h
 rcases List.append_eq_append_iff.1 h with ⟨as0,h1,h2⟩ | ⟨bs,h1,h2⟩
 ·cases as0 with
  |nil=>exact⟨[],by simp at h1;rw[h1];simp⟩
  |cons a r=>
   simp only[List.cons_append,List.nil_append,List.cons.injEq] at h2
   have:=hp a (by rw[h1];simp)
   omega
 ·exact⟨bs,h1⟩
theorem digs_cut {m:Int}{zs ps qs:List Int}{d:Int}(h:digs m++zs=ps++d::qs)(hp: ∀x∈ps,128≤x)(hd:d<128):digs m=ps++[d]∧zs=qs:=by
 obtain⟨us,hu⟩:=hi_cut h hp
 cases us with
 |nil=>
  rw[List.append_nil] at hu
  unfold digs at h⊢
  rw[hu,List.append_assoc] at h
  have:=List.append_cancel_left h
  simp only[List.cons_append,List.nil_append,List.cons.injEq] at this
  rw[hu,this.1]
  exact⟨rfl,this.2⟩
 |cons u r=>
  unfold digs at h
  rw[hu] at h
  simp only[List.append_assoc,List.cons_append] at h
  have:=List.append_cancel_left h
  simp only[List.cons.injEq] at this
  have h2:=hi_ge u (by rw[hu];simp)
  omega
theorem digs_pre {m n:Int}{ys zs:List Int}(hm:Arc m)(hn:Arc n)(h:digs m++ys=digs n++zs):m=n∧ys=zs:=by
 have h':digs m++ys=hi (n/ 128)++(n%128)::zs:=by rw[h];simp[digs]
 obtain⟨h1,h2⟩:=digs_cut h' (fun x hx=>(hi_ge x hx).1) (by omega)
 refine⟨?_,h2⟩
 have e:digs m=digs n:=h1
 rw[←val_digs hm,←val_digs hn,e]
def body (ns:List Int):List Int:=ns.flatMap digs
theorem body_nil:body []=[]:=rfl
theorem body_cons (n:Int)(ns:List Int):body (n::ns)=digs n++body ns:=rfl
theorem body_append (ns ms:List Int):body (ns++ms)=body ns++body ms:=List.flatMap_append
theorem body_bytes (ns:List Int): ∀x∈body ns,0≤x∧x≤255:=by
 intro x hx
 obtain⟨n,_,h⟩:=List.mem_flatMap.1 hx
 exact digs_bytes n x h
theorem body_pre: ∀(ns ms:List Int) (rest:List Int),(∀n∈ns,Arc n)→(∀m∈ms,Arc m)→body ms=body ns++rest→∃rs,ms=ns++rs∧body rs=rest
 | [],ms,rest,_,_,h=>⟨ms,rfl,h⟩
 |n::ns,[],rest,_,_,h=>by
  have:=congrArg List.length h
  rw[body_cons,body_nil] at this
  have hl:=digs_ne n
  have:(digs n).length=0:=by simp at this;omega
  exact absurd (List.eq_nil_of_length_eq_zero this) hl
 |n::ns,m::ms,rest,hn,hm,h=>by
  rw[body_cons,body_cons,List.append_assoc] at h
  obtain⟨rfl,h2⟩:=digs_pre (hm m (by simp)) (hn n (by simp)) h
  obtain⟨rs,h3,h4⟩:=body_pre ns ms rest (fun x hx=>hn x (by simp[hx])) (fun x hx=>hm x (by simp[hx])) h2
  exact⟨rs,by rw[h3];rfl,h4⟩
theorem body_length: ∀ns:List Int,(∀n∈ns,Arc n)→(body ns).length≤4*ns.length
 | [],_=>by simp[body]
 |n::ns,h=>by
  have h1:=digs_length (h n (by simp))
  have h2:=body_length ns fun x hx=>h x (by simp[hx])
  rw[body_cons,List.length_append,List.length_cons]
  omega
def objB (l:List Int):Bool:=
 decide (2≤l.length∧l.length≤16∧(∀a∈l,0≤a∧a≤268435455)∧l.getD 0 0≤2∧(l.getD 0 0=2∨l.getD 1 0<40)∧40*l.getD 0 0+l.getD 1 0≤268435455)
theorem objB_iff (l:List Int):objB l=true↔(2≤l.length∧l.length≤16∧(∀a∈l,0≤a∧a≤268435455)∧l.getD 0 0≤2∧(l.getD 0 0=2∨l.getD 1 0<40)∧40*l.getD 0 0+l.getD 1 0≤268435455):=decide_eq_true_iff
def nums (l:List Int):List Int:=(40*l.getD 0 0+l.getD 1 0)::l.drop 2
def encO (l:List Int):List Int:=body (nums l)
def putO (l:List Int):List Int × Int:=if objB l=true then (encO l,0) else ([],22)
def arcs2 (n:Int):List Int:=if n.tdiv 40≤2 then [n.tdiv 40,n - 40*n.tdiv 40] else [2,n - 80]
def unnum:List Int→List Int
 | []=>[]
 |n::r=>arcs2 n++r
theorem arcs2_pos {n:Int}(h:0≤n):arcs2 n=if n/ 40≤2 then [n/ 40,n - 40* (n/ 40)] else [2,n - 80]:=by
 unfold arcs2;rw[Int.tdiv_eq_ediv_of_nonneg h]
theorem nums_arc {l:List Int}(h:objB l=true): ∀n∈nums l,Arc n:=by
 have h:=(objB_iff l).1 h
 intro n hn
 match l,h with
 |a::b::r,⟨_,_,h3,h4,h5,h6⟩=>
  simp only[nums,List.getD_cons_zero,List.getD_cons_succ,List.drop_succ_cons,List.drop_zero,List.mem_cons] at hn h4 h5 h6
  have ha:=h3 a (by simp)
  have hb:=h3 b (by simp)
  rcases hn with rfl |hn
  ·exact⟨by omega,h6⟩
  ·exact h3 n (by simp[hn])
theorem unnum_nums {l:List Int}(h:objB l=true):unnum (nums l)=l:=by
 have h:=(objB_iff l).1 h
 match l,h with
 |a::b::r,⟨_,_,h3,h4,h5,h6⟩=>
  have ha:=h3 a (by simp)
  have hb:=h3 b (by simp)
  simp only[nums,unnum,List.getD_cons_zero,List.getD_cons_succ,List.drop_succ_cons,List.drop_zero] at h4 h5 h6⊢
  rw[arcs2_pos (by omega)]
  split
  ·have e:(40*a+b) / 40=a:=by omega
   rw[e];simp;omega
  ·have e:a=2:=by omega
   subst e;simp;omega
theorem obj_unnum {ns:List Int}(hne:ns≠[])(hl:ns.length≤15)(h: ∀n∈ns,Arc n):objB (unnum ns)=true∧nums (unnum ns)=ns:=by
 match ns,hne with
 |n::r,_=>
  have hn:=h n (by simp)
  unfold Arc at hn
  have hr: ∀a∈r,0≤a∧a≤268435455:=fun a ha=>h a (by simp[ha])
  simp only[List.length_cons] at hl
  rw[objB_iff]
  have e:unnum (n::r)=arcs2 n++r:=rfl
  rw[e,arcs2_pos hn.1]
  split
  ·refine⟨⟨by simp,by simp;omega,?_,?_,?_,?_⟩,?_⟩
   ·intro a ha
    simp only[List.cons_append,List.nil_append,List.mem_cons] at ha
    rcases ha with rfl |rfl |ha
    ·omega
    ·omega
    ·exact hr a ha
   ·simp;omega
   ·simp;omega
   ·simp;omega
   ·simp[nums];omega
  ·refine⟨⟨by simp,by simp;omega,?_,?_,?_,?_⟩,?_⟩
   ·intro a ha
    simp only[List.cons_append,List.nil_append,List.mem_cons] at ha
    rcases ha with rfl |rfl |ha
    ·omega
    ·omega
    ·exact hr a ha
   ·simp
   ·simp
   ·simp;omega
   ·simp[nums];omega
theorem nums_length (l:List Int)(h:2≤l.length):(nums l).length+1=l.length:=by
 match l,h with
 |a::b::r,_=>simp[nums]
end Go.Proofs.YtkjkhoglkpepiaaGreatDoor.intm
namespace Go.Proofs.YtkjkhoglkpepiaaGreatDoor.intm
open Go.RowKit
def stepA (s:List Int × Int)(x:Int):List Int × Int:=
 if 128≤x then (s.1,wrap64 (s.2*128)+x%128)
 else if s.1=[] then (arcs2 (wrap64 (s.2*128)+x%128),0) else (s.1++[wrap64 (s.2*128)+x%128],0)
def runA (xs:List Int):List Int × Int:=xs.foldl stepA ([],0)
def arcsF (xs:List Int):List Int:=(runA xs).1
theorem runA_snoc (xs:List Int)(x:Int):runA (xs++[x])=stepA (runA xs) x:=by simp[runA]
theorem wrap_i64 (n:Int):I64 (wrap64 n):=by unfold I64 wrap64;omega
theorem wrap_low (n x:Int):I64 (wrap64 (n*128)+x%128)∧wrap64 (n*128)%128=0:=by unfold I64 wrap64;omega
theorem arcs2_i64 {n:Int}(h:I64 n): ∀a∈arcs2 n,I64 a:=by
 unfold I64 at h
 have h1:=Int.mul_tdiv_add_tmod n 40
 have h2:n.tmod 40<40:=by have:=Int.tmod_lt_of_pos n (show(0:Int)<40 by decide);omega
 have h3: -40<n.tmod 40:=by have:=Int.lt_tmod_of_pos n (show(0:Int)<40 by decide);omega
 intro a ha
 unfold arcs2 at ha
 unfold I64
 split at ha
 ·simp at ha
  rcases ha with rfl |rfl<;>omega
 ·simp at ha
  rcases ha with rfl |rfl<;>omega
theorem runA_i64: ∀(k:Nat) (xs:List Int),xs.length=k→(∀a∈(runA xs).1,I64 a)∧I64 (runA xs).2:=by
 intro k
 induction k with
 |zero=>intro xs h;rw[List.eq_nil_of_length_eq_zero h];exact⟨fun a h=>by simp[runA] at h,by show I64 0;unfold I64;omega⟩
 |succ k ih=>
  intro xs hl
  have hne:xs≠[]:=by intro e;rw[e] at hl;simp at hl
  have he:=List.dropLast_concat_getLast hne
  have h:=ih xs.dropLast (by rw[List.length_dropLast];omega)
  rw[←he,runA_snoc]
  have hw:=wrap_low (runA xs.dropLast).2 (xs.getLast hne)
  unfold stepA
  split
  ·exact⟨h.1,hw.1⟩
  ·split
   ·exact⟨arcs2_i64 hw.1,by show I64 0;unfold I64;omega⟩
   ·refine⟨fun a ha=>?_,by show I64 0;unfold I64;omega⟩
    rcases List.mem_append.1 ha with h' |h'
    ·exact h.1 a h'
    ·simp at h';rw[h'];exact hw.1
theorem arcsF_i64 (xs:List Int): ∀a∈arcsF xs,I64 a:=(runA_i64 _ xs rfl).1
theorem runA_length: ∀(k:Nat) (xs:List Int),xs.length=k→(runA xs).1.length≤k+1:=by
 intro k
 induction k with
 |zero=>intro xs h;rw[List.eq_nil_of_length_eq_zero h];simp[runA]
 |succ k ih=>
  intro xs hl
  have hne:xs≠[]:=by intro e;rw[e] at hl;simp at hl
  have he:=List.dropLast_concat_getLast hne
  have h:=ih xs.dropLast (by rw[List.length_dropLast];omega)
  rw[←he,runA_snoc]
  unfold stepA
  split
  ·simp only[];omega
  ·split
   ·unfold arcs2;split<;>simp
   ·simp;omega
theorem fold_hiF (k:Nat)(hk:k≤4): ∀n:Int,0≤n→n<128^k→∀a,(hiF k n).foldl stepA (a,0)=(a,n):=by
 induction k with
 |zero=>intro n h0 h a;have:n=0:=by simp at h;omega
        subst this;rfl
 |succ k ih=>
  intro n h0 h a
  have hb:n<268435456:=by
   have hk2:k=0∨k=1∨k=2∨k=3:=by omega
   rcases hk2 with rfl |rfl |rfl |rfl<;>simp at h<;>omega
  have e1:hiF (k+1) n=if n<1 then [] else hiF k (n/ 128)++[n%128+128]:=rfl
  rw[e1]
  split
  ·have:n=0:=by omega
   subst this;rfl
  ·rw[List.foldl_append,ih (by omega) (n/ 128) (by omega) (by rw[Int.pow_succ] at h;omega) a]
   simp only[List.foldl_cons,List.foldl_nil,stepA]
   rw[if_pos (by omega)]
   have e:wrap64 (n/ 128*128)=n/ 128*128:=by unfold wrap64;omega
   rw[e]
   congr 1
   omega
theorem fold_digs {m:Int}(h:Arc m)(a:List Int):(digs m).foldl stepA (a,0)=(if a=[] then arcs2 m else a++[m],0):=by
 unfold Arc at h
 unfold digs
 rw[List.foldl_append,show hi (m/ 128)=hiF 4 (m/ 128) from rfl,fold_hiF 4 (lr_ _) _ (by omega) (by omega)]
 simp only[List.foldl_cons,List.foldl_nil,stepA]
 have e:wrap64 (m/ 128*128)+m%128%128=m:=by unfold wrap64;omega
 rw[if_neg (by omega),e]
 split<;>rfl
theorem fold_body: ∀(ns:List Int),(∀n∈ns,Arc n)→∀a,a≠[]→(body ns).foldl stepA (a,0)=(a++ns,0)
 | [],_,a,_=>by simp[body]
 |n::ns,h,a,ha=>by
  rw[body_cons,List.foldl_append,fold_digs (h n (by simp)),if_neg ha,fold_body ns (fun x hx=>h x (by simp[hx])) _ (by simp)]
  simp
theorem arcs2_ne (n:Int):arcs2 n≠[]:=by unfold arcs2;split<;>simp
theorem arcsF_encO {l:List Int}(h:objB l=true):arcsF (encO l)=l:=by
 have hn:=nums_arc h
 have hu:=unnum_nums h
 unfold arcsF runA encO
 match hns:nums l with
 | []=>simp[nums] at hns
 |n::r=>
  rw[hns] at hn hu
  rw[body_cons,List.foldl_append,fold_digs (hn n (by simp)),if_pos rfl,fold_body r (fun x hx=>hn x (by simp[hx])) _ (arcs2_ne n)]
  exact hu
theorem encO_length {l:List Int}(h:objB l=true):(encO l).length≤60:=by
 have h1:=body_length (nums l) (nums_arc h)
 have h2:=(objB_iff l).1 h
 have h3:=nums_length l h2.1
 unfold encO
 omega
theorem encO_bytes (l:List Int): ∀x∈encO l,0≤x∧x≤255:=body_bytes _
def oidF (xs:List Int):List Int × Int:=if objB (arcsF (xs.take 60))=true∧encO (arcsF (xs.take 60))=xs then (arcsF (xs.take 60),0) else ([],22)
theorem oidF_enc {l:List Int}(h:objB l=true):oidF (encO l)=(l,0):=by
 unfold oidF
 rw[List.take_of_length_le (encO_length h),arcsF_encO h,if_pos ⟨h,rfl⟩]
theorem oidF_none {xs:List Int}(h: ∀l,objB l=true→encO l≠xs):oidF xs=([],22):=by
 unfold oidF
 rw[if_neg]
 rintro⟨h1,h2⟩
 exact h _ h1 h2
end Go.Proofs.YtkjkhoglkpepiaaGreatDoor.intm
namespace Go.Proofs.YtkjkhoglkpepiaaGreatDoor.intc
open Go.RowKit tlvc intm
def DigPost (base:Nat)(k:Nat)(xs:List Value)(n:Int)(w:World)(e:Ending)(w':World):Prop:=
 ∃v',e=.returned v'∧w'.ownsRow base 5 1 v' (k+ (digs n).length) (xs++vals (digs n))∧Below base w w'
theorem or_128 {y:Int}(h0:0≤y)(h:y≤255):bits .or .u8 y 128=y%128+128:=by
 have key: ∀k:Fin 256,bits .or .u8 (k.val:Int) 128=(k.val:Int)%128+128:=by decide+kernel
 obtain⟨k,rfl⟩:=Int.eq_ofNat_of_zero_le h0
 exact key ⟨k,by omega⟩
theorem not_128 {y:Int}(h0:0≤y)(h:y≤255):bits .andNot .u8 y 128=y%128:=by
 have key: ∀k:Fin 256,bits .andNot .u8 (k.val:Int) 128=(k.val:Int)%128:=by decide+kernel
 obtain⟨k,rfl⟩:=Int.eq_ofNat_of_zero_le h0
 exact key ⟨k,by omega⟩
theorem pow7 (n:Int)(j:Nat):n/ 2^ (7* (j+1))=n/ 2^ (7*j) / 128:=by
 rw[Int.ediv_ediv_of_nonneg (Int.le_of_lt (Int.pow_pos (by decide))),Nat.mul_add,Int.pow_add]
 rfl
theorem pow7_le {n:Int}(h:Arc n)(j:Nat):0≤n/ 2^ (7*j)∧n/ 2^ (7*j)≤268435455:=by
 unfold Arc at h
 have hp:(0:Int)<2^ (7*j):=Int.pow_pos (by decide)
 exact⟨Int.ediv_nonneg h.1 (Int.le_of_lt hp),Int.le_trans (Int.ediv_le_self _ h.1) h.2⟩
theorem pow7_mono {n:Int}(h:Arc n){i j:Nat}(hij:i≤j):n/ 2^ (7*j)≤n/ 2^ (7*i):=by
 obtain⟨d,rfl⟩: ∃d,j=i+d:=⟨j - i,by omega⟩
 clear hij
 induction d with
 |zero=>exact Int.le_refl _
 |succ d ih=>
  have:=(pow7_le h (i+d)).1
  rw[show i+ (d+1)=(i+d)+1 from rfl,pow7]
  omega
theorem pow7_four {n:Int}(h:Arc n):n/ 2^ (7*4)=0:=by unfold Arc at h;omega
def Heads (base k:Nat)(xs:List Value)(n:Int)(w:World)(j:Nat)(v:Value)(w':World):Prop:=
 w'.ownsRow base 5 1 v (k+ (hi (n/ 2^ (7* (j+1)))).length) (xs++vals (hi (n/ 2^ (7* (j+1)))))∧Below base w w'
theorem heads_step {base k:Nat}{xs:List Value}{n:Int}{w w1 w2:World}{j:Nat}{v v':Value}{o:Obj}(hn:Arc n)(hbase:base≤w1.heap.size)(h:Heads base k xs n w (j+1) v w1)(h1:n/ 2^ (7* (j+1))≠0)
 {m:Nat} {ys:List Value} (hm:m=k+ (hi (n/ 2^ (7* (j+1+1)))).length+1) (hy:ys=xs++vals (hi (n/ 2^ (7* (j+1+1))))++vals [n/ 2^ (7* (j+1))%128+128])
 (ho:w2.ownsRow base 5 1 v' m ys) (hg:(w1.alloc o).grownBy w2 v.ownBlock):Heads base k xs n w j v' w2:=by
 have hb:=pow7_le hn (j+1)
 have e:hi (n/ 2^ (7* (j+1)))=hi (n/ 2^ (7* (j+1+1)))++[n/ 2^ (7* (j+1))%128+128]:=by
  rw[hi_step (by omega) (by omega),pow7 n (j+1)]
 subst hm hy
 refine⟨?_,(h.2.alloc hbase o).grown hg (by simp;omega) fun i hi=>(h.1.lt i hi).1⟩
 rw[e,vals_append,List.length_append,←List.append_assoc]
 exact ho
theorem heads_end {base k:Nat}{xs:List Value}{n:Int}{w w1 w2:World}{v v':Value}{o:Obj}(hn:Arc n)(hbase:base≤w1.heap.size)(h:Heads base k xs n w 0 v w1)
 {m:Nat} {ys:List Value} (hm:m=k+ (hi (n/ 2^ (7* (0+1)))).length+1) (hy:ys=xs++vals (hi (n/ 2^ (7* (0+1))))++vals [n%128])
 (ho:w2.ownsRow base 5 1 v' m ys) (hg:(w1.alloc o).grownBy w2 v.ownBlock):DigPost base k xs n w (.returned v') w2:=by
 have e:digs n=hi (n/ 2^ (7* (0+1)))++[n%128]:=rfl
 subst hm hy
 refine⟨v',rfl,?_,(h.2.alloc hbase o).grown hg (by simp;omega) fun i hi=>(h.1.lt i hi).1⟩
 rw[e,vals_append,List.length_append,←List.append_assoc]
 exact ho
theorem bys_new {w:World}{xs:List Int}{c:Array Value}{e:TypeId}{fr:Nat × Nat}{b m:Nat}(hc:c=(vals xs).toArray)(hf:Fit xs)(hm:m=xs.length)(hb:b=w.heap.size):Bys (w.alloc (.cells c e fr)) (some ⟨b,0,none⟩) m xs:=by
 subst hc hm hb
 refine⟨rfl,hf,fun _=>⟨_,_,rfl,by simp,fun j hj=>?_⟩⟩
 rw[Nat.zero_add,World.cell?_alloc_mark]
 simp[vals,List.getD_eq_getElem?_getD,List.getElem?_eq_getElem hj]
theorem fit_one {x:Int}(h0:0≤x)(h:x≤255):Fit [x]:=by intro y hy;simp at hy;omega
theorem appendDigits_any (base:Nat)(v:Value)(k:Nat)(xs:List Value)(n:Int)(w:World)(hown:w.ownsRow base 5 1 v k xs)(hk:k≤140737488355320)(hn:Arc n)(hbase:base≤w.heap.size):
 Calls Tryz.prog 100 #[v,.int .i64 n] w (DigPost base k xs n w):=by
 obtain⟨i0,hi0,hz0,hz1,hz2⟩:=info_parts Tryz.info5
 have hb:0≤n∧n≤268435455:=hn
 go_enter Tryz.func100,Tryz.ntmps100
 go_wp2
 go_loop [5] (fun x=>∃j:Nat,x=.int .i64 j∧j≤3∧(j=0∨n/ 2^ (7*j)≠0)) (fun x=>9 - (intOf x).toNat)
 case atStart=>exact⟨0,rfl,by omega,.inl rfl⟩
 case round=>
  obtain⟨j,rfl,hj,hjn⟩:=hrel
  by_cases hlt:n/ 2^ (7* (j+1))=0
  ·have ht:(n/ 2^ (7* (j+1)) !=0)=false:=by rw[hlt];rfl
   have hstart:Heads base k xs n w j v w:=by
    unfold Heads
    rw[hlt,hi_zero]
    exact⟨by simpa[vals] using hown,br_ _ _⟩
   have HJ:=hd_ hjn
   have HT:=hd_ hlt
   clear hlt hjn
   go_wp2
   go_loopw [0,6] (fun x y wr=>∃i:Nat,y=.int .i64 i∧i≤j∧Heads base k xs n w i x wr) (fun _ y _=>(intOf y).toNat)
   case atStart=>exact⟨j,rfl,lr_ _,hstart⟩
   case round=>
    obtain⟨i,rfl,hi,hr⟩:=hrel
    have hB:base≤wr.heap.size:=Nat.le_trans hbase hr.2.size
    have hL:(intm.hi (n/ 2^ (7* (i+1)))).length≤4:=hiF_length 4 _
    rcases i with _ |i
    ·have hno:bits .andNot .u8 (n%256) 128=n%128:=by rw[not_128 (by omega) (by omega)];omega
     clear HJ HT hstart
     go_wp2_with (at_builtin;refine wpl_app rfl (.tmp 29) (.tmp 33) 34 rfl base 5 i0 (.int .u8 0) Tryz.underlying34 hi0 hz0 hz1 hz2 rfl u0 _ _ rfl (hr.1.alloc _) _ 1 1 [n%128] rfl (bys_new rfl (fit_one (by omega) (by omega)) rfl (by simp)) (by omega) (by simp;omega) ?_;intro v' w2 ho2 hg2)
     go_ret
     exact heads_end hn hB hr rfl rfl ho2 hg2
    ·have hno:bits .or .u8 (n/ 2^ (7* (i+1))%256) 128=n/ 2^ (7* (i+1))%128+128:=by rw[or_128 (by omega) (by omega)];omega
     have hnz:n/ 2^ (7* (i+1))≠0:=by
      have h1:=pow7_mono hn hi
      have h2:=(pow7_le hn j).1
      rcases HJ.out with h |h
      ·omega
      ·omega
     have HN:=hd_ hnz
     clear HJ HT hstart hnz
     go_wp2_with (at_builtin;refine wpl_app rfl (.tmp 20) (.tmp 27) 34 rfl base 5 i0 (.int .u8 0) Tryz.underlying34 hi0 hz0 hz1 hz2 rfl u0 _ _ rfl (hr.1.alloc _) _ 1 1 [n/ 2^ (7* (i+1))%128+128] rfl (bys_new rfl (fit_one (by omega) (by omega)) rfl (by simp)) (by omega) (by simp;omega) ?_;intro v' w2 ho2 hg2)
     go_roundw
     case rel=>exact⟨i,by go_num,by omega,heads_step hn hB hr HN.out rfl rfl ho2 hg2⟩
     case measure=>simp[intOf]
  ·have ht:(n/ 2^ (7* (j+1)) !=0)=true:=by simpa using hlt
   have hj3:j+1≤3:=by
    by_cases h:j=3
    ·exfalso
     subst h
     exact hlt (pow7_four hn)
    ·omega
   have HT:=hd_ hlt
   clear hlt hjn
   go_wp2
   go_round
   case rel=>exact⟨j+1,by go_num,by omega,.inr HT.out⟩
   case measure=>simp[intOf];omega
end Go.Proofs.YtkjkhoglkpepiaaGreatDoor.intc
namespace Go.Proofs.YtkjkhoglkpepiaaGreatDoor.intc
open Go.RowKit tlvc intm
theorem and_127 {y:Int}(h0:0≤y)(h:y≤268435455):bits .and .i64 y 127=y%128:=
 bits_mask .i64 62 (by decide) (fun n h₀ h₁=>by rw[IntKind.wrap_i64];omega) 7 (by decide) y h0 (by omega)
def DigRound (B:Nat)(n m:Int)(v:Value)(w w':World):Prop:=
 Arc m∧∃zs,digs n=intm.hi (m/ 128)++zs∧Fit zs∧w'.ownsRow B 5 1 v zs.length (vals zs)∧Below B w w'
theorem digRound_len {B:Nat}{n m:Int}{v:Value}{w w':World}(hn:Arc n)(h:DigRound B n m v w w'): ∃zs,digs n=intm.hi (m/ 128)++zs∧Fit zs∧w'.ownsRow B 5 1 v zs.length (vals zs)∧Below B w w'∧zs.length≤4:=by
 obtain⟨_,zs,h1,h2,h3,h4⟩:=h
 refine⟨zs,h1,h2,h3,h4,?_⟩
 have:=congrArg List.length h1
 rw[List.length_append] at this
 have:=digs_length hn
 omega
theorem digRound_step {n m:Int}{v':Value}{w wr w':World}{zs:List Int}{k:Nat}{xs:List Value}(hm:Arc m)(hlt:127<m)(h1:digs n=intm.hi (m/ 128)++zs)(h2:Fit zs)(h4:Below w.heap.size w wr)
 (hk:k=1+zs.length) (hx:xs=vals ((m/ 128%128+128)::zs)) {o:Obj}
 (ho:w'.ownsRow w.heap.size 5 1 v' k xs) (hg:(wr.alloc o).grownBy w' (some wr.heap.size)):DigRound w.heap.size n (m/ 128) v' w w':=by
 unfold Arc at hm
 have hk':k=((m/ 128%128+128)::zs).length:=by simp;omega
 subst hk' hx
 refine⟨by unfold Arc;omega,_,?_,(fit_one (by omega) (by omega)).app h2,ho,?_⟩
 ·rw[h1,hi_step (n:=m/ 128) (by omega) (by omega)];simp
 ·exact(h4.alloc h4.size _).grown hg (by have:=h4.size;simp;omega) fun j hj=>by cases hj;exact h4.size
def DigOwn (w:World)(n:Int)(e:Ending)(w':World):Prop:=∃v',e=.returned v'∧w'.ownsRow w.heap.size 5 1 v' (digs n).length (vals (digs n))∧Below w.heap.size w w'
theorem digRound_end {n m:Int}{v:Value}{w w':World}(hlt: ¬127<m)(h:DigRound w.heap.size n m v w w'):DigOwn w n (.returned v) w':=by
 obtain⟨hm,zs,h1,h2,h3,h4⟩:=h
 unfold Arc at hm
 have e:m/ 128=0:=by omega
 have e2:digs n=zs:=by rw[h1,e,hi_zero,List.nil_append]
 subst e2
 exact⟨v,rfl,h3,h4⟩
theorem digits_any (n:Int)(w:World)(hn:Arc n):Calls Tryz.prog 197 #[.int .i64 n] w (DigOwn w n):=by
 obtain⟨i0,hi0,hz0,hz1,hz2⟩:=info_parts Tryz.info5
 have hb:0≤n∧n≤268435455:=hn
 have hstart:DigRound w.heap.size n n (.slice (some ⟨w.heap.size,0,none⟩) 1 1) w (w.alloc (.cells #[.int .u8 (n%128)] 5)):=
  ⟨hn,[n%128],rfl,fit_one (by omega) (by omega),own_one w _ (lr_ _),(br_ _ _).alloc (lr_ _) _⟩
 have ha:=and_127 hb.1 hb.2
 go_enter Tryz.func197,Tryz.ntmps197
 go_wp2
 go_loopw [0,3] (fun x v wr=>∃m:Int,x=.int .i64 m∧DigRound w.heap.size n m v w wr) (fun x _ _=>(intOf x).toNat)
 case atStart=>exact⟨n,rfl,hstart⟩
 case round=>
  obtain⟨m,rfl,hr⟩:=hrel
  have hm:0≤m∧m≤268435455:=hr.1
  by_cases hlt:127<m
  ·obtain⟨zs,h1,h2,h3,h4,h5⟩:=digRound_len hn hr
   have hma:=hr.1
   have H1:=hd_ h1
   have hB:=h4.size
   obtain⟨A,c,rfl,hc1,hc2,hA⟩:=own_shape h3
   have hbz:Bys wr A zs.length zs:=Bys.own h3 h2
   have ho1:=own_one wr (m/ 128%128+128) hB
   have ha2:=and_127 (y:=m/ 128) (by omega) (by omega)
   have hor:bits .or .u8 (m/ 128%128) 128=m/ 128%128+128:=by rw[or_128 (by omega) (by omega)];omega
   clear hr hstart h1 hA
   go_wp2_with (at_builtin;refine wpl_app rfl (.tmp 16) (.tmp 17) 34 rfl w.heap.size 5 i0 (.int .u8 0) Tryz.underlying34 hi0 hz0 hz1 hz2 rfl (.slice (some ⟨wr.heap.size,0,none⟩) 1 1) 1 (vals [m/ 128%128+128]) rfl ho1 A zs.length c zs rfl (hbz.alloc _) (by omega) (by simp;omega) ?_;intro v' w2 ho2 hg2)
   go_roundw
   case rel=>exact⟨m/ 128,rfl,digRound_step hma hlt H1.out h2 h4 rfl rfl ho2 hg2⟩
   case measure=>simp[intOf];omega
  ·have he:=digRound_end hlt hr
   clear hr hstart
   go_wp2
   go_ret
   exact he
theorem objB_len {l:List Int}(h:l.length<2∨16<l.length):objB l=false:=by
 cases e:objB l
 ·rfl
 ·have:=(objB_iff l).1 e;omega
theorem objB_bad {l:List Int}{k:Nat}(hk:k<l.length)(h:l.getD k 0<0∨268435455<l.getD k 0):objB l=false:=by
 cases e:objB l
 ·rfl
 ·have:=((objB_iff l).1 e).2.2.1 (l.getD k 0) (by rw[List.getD_eq_getElem?_getD,List.getElem?_eq_getElem hk];exact List.getElem_mem hk)
  omega
def Upto (l:List Int)(k:Nat):Prop:=∀j,j<k→0≤l.getD j 0∧l.getD j 0≤268435455
theorem objB_all {l:List Int}{k:Nat}(hk:k=l.length)(h:Upto l k)(h2:2≤l.length)(h16:l.length≤16):
 objB l=decide (l.getD 0 0≤2∧(l.getD 0 0=2∨l.getD 1 0<40)∧40*l.getD 0 0+l.getD 1 0≤268435455):=by
 have hall: ∀a∈l,0≤a∧a≤268435455:=by
  intro a ha
  obtain⟨j,hj,rfl⟩:=List.getElem_of_mem ha
  have:=h j (by omega)
  rwa[List.getD_eq_getElem?_getD,List.getElem?_eq_getElem hj] at this
 unfold objB
 rw[decide_eq_decide]
 exact⟨fun h=>h.2.2.2,fun h=>⟨h2,h16,hall,h⟩⟩
theorem upto_step {l:List Int}{k:Nat}(h:Upto l k)(h1:0≤l.getD k 0∧l.getD k 0≤268435455):Upto l (k+1):=by
 intro j hj
 by_cases e:j=k
 ·subst e;exact h1
 ·exact h j (by omega)
def QuietB (w:World)(b:Bool)(e:Ending)(w':World):Prop:=e=.returned (.bool b)∧∃q,w'=w.drewN q
theorem object_any (A:Option Addr)(n c:Nat)(xs:List Int)(w:World)(hb:Ins w A n xs)(hc:n≤c)(hm:c≤maxLen):
 Calls Tryz.prog 99 #[.slice A n c] w (QuietB w (objB xs)):=by
 unfold maxLen at hm
 have hlen:=hb.len
 by_cases h2:n<2
 ·rw[objB_len (by omega)]
  clear hlen
  go_enter Tryz.func99,Tryz.ntmps99
  go_wp2
  go_ret
  exact⟨rfl,0,rfl⟩
 by_cases h16:16<n
 ·rw[objB_len (by omega)]
  clear hlen
  go_enter Tryz.func99,Tryz.ntmps99
  go_wp2
  go_ret
  exact⟨rfl,0,rfl⟩
 obtain⟨b,off,rfl,_,hcl⟩:=hb.2.2 (by omega)
 have HL:=hd_ hlen
 have HC:=hd_ hcl
 obtain⟨R,hR⟩:=nm_ (objB xs)
 rw[hR]
 have HR:=hd_ hR
 clear hlen hcl hR
 go_enter Tryz.func99,Tryz.ntmps99
 go_wp2
 go_loop [15] (fun x=>∃k:Nat,x=.int .i64 k∧k≤n∧Upto xs k) (fun x=>n - (intOf x).toNat)
 case atStart=>exact⟨0,rfl,by omega,fun j hj=>by omega⟩
 case round=>
  obtain⟨k,rfl,hk,hup⟩:=hrel
  by_cases hlt:k<n
  ·have hcell:=HC.out k hlt
   by_cases hok:0≤xs.getD k 0∧xs.getD k 0≤268435455
   ·have hn:=upto_step hup hok
    obtain⟨x,hx⟩:=nm_ (xs.getD k 0)
    rw[hx] at hok hcell
    clear hx
    go_wp2
    go_round
    case rel=>exact⟨k+1,by go_num,by omega,hn⟩
    case measure=>simp[intOf];omega
   ·have e:R=false:=by rw[←HR.out];exact objB_bad (by rw[HL.out];exact hlt) (by omega)
    subst e
    obtain⟨x,hx⟩:=nm_ (xs.getD k 0)
    rw[hx] at hok hcell
    clear hx
    by_cases hx0:x<0
    ·clear hok
     go_wp2
     go_ret
     exact⟨rfl,0,rfl⟩
    ·have hx1:268435455<x:=by omega
     clear hok
     go_wp2
     go_ret
     exact⟨rfl,0,rfl⟩
  ·have hR:=objB_all (by rw[HL.out];omega) hup (by rw[HL.out];omega) (by rw[HL.out];omega)
   rw[HR.out] at hR
   have hu0:=hup 0 (by omega)
   have hu1:=hup 1 (by omega)
   have hc0:w.cell? ⟨b,off,none⟩=some (.int .i64 (xs.getD 0 0)):=by simpa using HC.out 0 (by omega)
   have hc1:=HC.out 1 (by omega)
   obtain⟨x0,hx0⟩:=nm_ (xs.getD 0 0)
   obtain⟨x1,hx1⟩:=nm_ (xs.getD 1 0)
   rw[hx0,hx1] at hR
   rw[hx0] at hc0 hu0
   rw[hx1] at hc1 hu1
   clear hx0 hx1 hup
   by_cases h0:2<x0
   ·have e:R=false:=by rw[hR];simp;omega
    subst e
    clear hR
    go_wp2
    go_ret
    exact⟨rfl,0,rfl⟩
   ·by_cases h1:x0<2
    ·by_cases h40:40≤x1
     ·have e:R=false:=by rw[hR];simp;omega
      subst e
      clear hR
      go_wp2
      go_ret
      exact⟨rfl,0,rfl⟩
     ·have e:R=decide (40*x0+x1≤268435455):=by rw[hR,decide_eq_decide];omega
      subst e
      clear hR
      go_wp2
      go_quiet (fail)
      go_wp2
      go_ret
      exact⟨rfl,_,rfl⟩
    ·have e:R=decide (40*x0+x1≤268435455):=by rw[hR,decide_eq_decide];omega
     subst e
     clear hR
     go_wp2
     go_quiet (fail)
     go_wp2
     go_ret
     exact⟨rfl,_,rfl⟩
end Go.Proofs.YtkjkhoglkpepiaaGreatDoor.intc
namespace Go.Proofs.YtkjkhoglkpepiaaGreatDoor.intc
open Go.RowKit tlvc intm
theorem refObject_any (A:Option Addr)(n c:Nat)(xs:List Int)(w:World)(hb:Ins w A n xs)(hc:n≤c)(hm:c≤maxLen):
 Calls Tryz.prog 66 #[.slice A n c] w (QuietB w (objB xs)):=by
 unfold maxLen at hm
 have hlen:=hb.len
 by_cases h2:n<2
 ·rw[objB_len (by omega)]
  clear hlen
  go_enter Tryz.func66,Tryz.ntmps66
  go_wp2
  go_ret
  exact⟨rfl,0,rfl⟩
 by_cases h16:16<n
 ·rw[objB_len (by omega)]
  clear hlen
  go_enter Tryz.func66,Tryz.ntmps66
  go_wp2
  go_ret
  exact⟨rfl,0,rfl⟩
 obtain⟨b,off,rfl,_,hcl⟩:=hb.2.2 (by omega)
 have HL:=hd_ hlen
 have HC:=hd_ hcl
 obtain⟨R,hR⟩:=nm_ (objB xs)
 rw[hR]
 have HR:=hd_ hR
 clear hlen hcl hR
 go_enter Tryz.func66,Tryz.ntmps66
 go_wp2
 go_loop [3] (fun x=>∃k:Nat,x=.int .i64 k∧k≤n∧Upto xs k) (fun x=>n - (intOf x).toNat)
 case atStart=>exact⟨0,rfl,by omega,fun j hj=>by omega⟩
 case round=>
  obtain⟨k,rfl,hk,hup⟩:=hrel
  by_cases hlt:k<n
  ·have hcell:=HC.out k hlt
   by_cases hok:0≤xs.getD k 0∧xs.getD k 0≤268435455
   ·have hn:=upto_step hup hok
    obtain⟨x,hx⟩:=nm_ (xs.getD k 0)
    rw[hx] at hok hcell
    clear hx
    go_wp2
    go_round
    case rel=>exact⟨k+1,by go_num,by omega,hn⟩
    case measure=>simp[intOf];omega
   ·have e:R=false:=by rw[←HR.out];exact objB_bad (by rw[HL.out];exact hlt) (by omega)
    subst e
    obtain⟨x,hx⟩:=nm_ (xs.getD k 0)
    rw[hx] at hok hcell
    clear hx
    by_cases hx0:x<0
    ·clear hok
     go_wp2
     go_ret
     exact⟨rfl,0,rfl⟩
    ·have hx1:268435455<x:=by omega
     clear hok
     go_wp2
     go_ret
     exact⟨rfl,0,rfl⟩
  ·have hR:=objB_all (by rw[HL.out];omega) hup (by rw[HL.out];omega) (by rw[HL.out];omega)
   rw[HR.out] at hR
   have hu0:=hup 0 (by omega)
   have hu1:=hup 1 (by omega)
   have hc0:w.cell? ⟨b,off,none⟩=some (.int .i64 (xs.getD 0 0)):=by simpa using HC.out 0 (by omega)
   have hc1:=HC.out 1 (by omega)
   obtain⟨x0,hx0⟩:=nm_ (xs.getD 0 0)
   obtain⟨x1,hx1⟩:=nm_ (xs.getD 1 0)
   rw[hx0,hx1] at hR
   rw[hx0] at hc0 hu0
   rw[hx1] at hc1 hu1
   clear hx0 hx1 hup
   by_cases h0:2<x0
   ·have e:R=false:=by rw[hR];simp;omega
    have hd:decide (x0≤2)=false:=by simp;omega
    subst e
    clear hR
    go_wp2
    go_quiet (fail)
    go_wp2
    go_ret
    exact⟨rfl,_,rfl⟩
   ·have hd:decide (x0≤2)=true:=by simp;omega
    by_cases h1:x0<2
    ·have he2:(x0==2)=false:=by simp;omega
     by_cases h40:40≤x1
     ·have e:R=false:=by rw[hR];simp;omega
      have hd2:decide (x1<40)=false:=by simp;omega
      subst e
      clear hR
      go_wp2
      go_quiet (fail)
      go_wp2
      go_ret
      exact⟨rfl,_,rfl⟩
     ·have e:R=decide (40*x0+x1≤268435455):=by rw[hR,decide_eq_decide];omega
      have hd2:decide (x1<40)=true:=by simp;omega
      subst e
      clear hR
      go_wp2
      go_quiet (fail)
      go_wp2
      go_ret
      exact⟨rfl,_,rfl⟩
    ·have e:R=decide (40*x0+x1≤268435455):=by rw[hR,decide_eq_decide];omega
     have he2:(x0==2)=true:=by simp;omega
     subst e
     clear hR
     go_wp2
     go_quiet (fail)
     go_wp2
     go_ret
     exact⟨rfl,_,rfl⟩
def OMade (w:World)(ys:List Int)(er:Int)(e:Ending)(w':World):Prop:=
 ∃A c,e=.returned (.tuple #[.slice A ys.length c,.int .i64 er])∧Here w.heap.size A c ys w'∧Below w.heap.size w w'
theorem oMade_none (w w':World)(er:Int)(h:Below w.heap.size w w'):OMade w [] er (.returned (.tuple #[.slice none 0 0,.int .i64 er])) w':=
 ⟨none,0,rfl,⟨Bys.nil_ _ _,lr_ _,Nat.zero_le _,fun _ _ h=>by cases h⟩,h⟩
theorem oMade_own {w w':World}{v:Value}{n:Nat}{ys:List Int}(h:w'.ownsRow w.heap.size 5 1 v n (vals ys))(hf:Fit ys)(hb:Below w.heap.size w w'):OMade w ys 0 (.returned (.tuple #[v,.int .i64 0])) w':=by
 obtain⟨A,c,he,hh,hbl⟩:=made_own h hf hb
 simp only[Ending.returned.injEq] at he
 subst he
 exact⟨A,c,rfl,hh,hbl⟩
theorem below_drewN {w:World}(q:Nat):Below w.heap.size w (w.drewN q):=⟨rfl,rfl,rfl,lr_ _,fun _ _=>rfl⟩
def ahead (l:List Int)(k:Nat):List Int:=(40*l.getD 0 0+l.getD 1 0)::(l.drop 2).take k
theorem ahead_all {l:List Int}{k:Nat}(h:l.length≤k+2):ahead l k=nums l:=by
 unfold ahead nums;rw[List.take_of_length_le (by rw[List.length_drop];omega)]
theorem ahead_step {l:List Int}{k:Nat}(h:k+2<l.length):body (ahead l (k+1))=body (ahead l k)++digs (l.getD (2+k) 0):=by
 have e:ahead l (k+1)=ahead l k++[l.getD (2+k) 0]:=by
  unfold ahead
  rw[List.take_succ_eq_append_getElem (by rw[List.length_drop];omega)]
  simp[List.getD_eq_getElem?_getD,List.getElem?_eq_getElem (show 2+k<l.length by omega)]
 rw[e,body_append]
 simp[body]
theorem ahead_zero (l:List Int):body (ahead l 0)=digs (40*l.getD 0 0+l.getD 1 0):=by simp[ahead,body]
theorem ahead_fit (l:List Int)(k:Nat):Fit (body (ahead l k)):=body_bytes _
theorem ahead_length {l:List Int}(h:objB l=true){k:Nat}(hk:k≤16):(body (ahead l k)).length≤68:=by
 have ha: ∀n∈ahead l k,Arc n:=by
  intro n hn
  refine nums_arc h n ?_
  unfold ahead at hn
  unfold nums
  rcases List.mem_cons.1 hn with rfl |hn
  ·simp
  ·exact List.mem_cons_of_mem _ (List.mem_of_mem_take hn)
 have h1:=body_length _ ha
 have h2:(ahead l k).length≤17:=by unfold ahead;simp;omega
 omega
theorem putOID_any (A:Option Addr)(n c:Nat)(xs:List Int)(w:World)(hb:Ins w A n xs)(hc:n≤c)(hm:c≤maxLen):
 Calls Tryz.prog 49 #[.slice A n c] w (OMade w (putO xs).1 (putO xs).2):=by
 have hm':=hm
 unfold maxLen at hm
 by_cases ho:objB xs=true
 ·have e1:(putO xs).1=encO xs:=by unfold putO;rw[if_pos ho]
  have e2:(putO xs).2=0:=by unfold putO;rw[if_pos ho]
  rw[e1,e2]
  have hobj:=(objB_iff xs).1 ho
  have hlen:=hb.len
  have HO:=hd_ ho
  have HL:=hd_ hlen
  have hn2:2≤n:=by omega
  have hn16:n≤16:=by omega
  have hA0:=hobj.2.2.1
  clear e1 e2 hobj hlen ho
  go_enter Tryz.func49,Tryz.ntmps49
  go_wp2_with fail
  refine(object_any _ _ _ _ _ hb hc hm').mono ?_
  rw[HO.out]
  rintro e w1 ⟨rfl,q,rfl⟩
  have hb1:=hb.drewN q
  have hbel1:Below w.heap.size w (w.drewN q):=below_drewN q
  obtain⟨w1,hw1⟩:=nm_ (w.drewN q)
  rw[hw1] at hb1 hbel1⊢
  clear hw1
  obtain⟨b,off,rfl,_,hcl⟩:=hb1.2.2 (by omega)
  have hc0:w1.cell? ⟨b,off,none⟩=some (.int .i64 (xs.getD 0 0)):=by simpa using hcl 0 (by omega)
  have hc1:=hcl 1 (by omega)
  have hu0:0≤xs.getD 0 0∧xs.getD 0 0≤268435455:=hA0 _ (by rw[List.getD_eq_getElem?_getD,List.getElem?_eq_getElem (by rw[HL.out];omega)];exact List.getElem_mem _)
  have hu1:0≤xs.getD 1 0∧xs.getD 1 0≤268435455:=hA0 _ (by rw[List.getD_eq_getElem?_getD,List.getElem?_eq_getElem (by rw[HL.out];omega)];exact List.getElem_mem _)
  have hu2:40*xs.getD 0 0+xs.getD 1 0≤268435455:=((objB_iff xs).1 HO.out).2.2.2.2.2
  obtain⟨x0,hx0⟩:=nm_ (xs.getD 0 0)
  obtain⟨x1,hx1⟩:=nm_ (xs.getD 1 0)
  rw[hx0] at hc0 hu0 hu2
  rw[hx1] at hc1 hu1 hu2
  have hw:=IntWalk.wrap64_in (40*x0) (by omega)
  have hw':=IntWalk.wrap64_in (40*x0+x1) (by omega)
  have HX0:=hd_ hx0
  have HX1:=hd_ hx1
  clear hx0 hx1 hcl
  have hd0:({heap:=w1.heap,tape:=w1.tape,drawn:=w1.drawn+1,os:=w1.os,output:=w1.output}:World).cell? ⟨b,off,none⟩=some (.int .i64 (x0)):=hc0
  have hd1:({heap:=w1.heap,tape:=w1.tape,drawn:=w1.drawn+1,os:=w1.os,output:=w1.output}:World).cell? ⟨b,off+1,none⟩=some (.int .i64 (x1)):=hc1
  go_wp2
  have hi0:(0:Int)< (n:Int):=by omega
  have hi1:(1:Int)< (n:Int):=by omega
  have hj0:0<n:=by omega
  have hj1:1<n:=by omega
  go_still_tail 8,(by kernel_rfl)
  change wpList _ _ _ _ _ w1.drew
  have hb2:Ins w1.drew (some ⟨b,off,none⟩) n xs:=hb1
  have hbel2:Below w.heap.size w w1.drew:=hbel1.trans ((below_drewN (w:=w1) 1).mono hbel1.size)
  obtain⟨w2,hw2⟩:=nm_ (w1.drew)
  rw[hw2] at hb2 hbel2⊢
  clear hw2 hd0 hd1 hc0 hc1 hb1 hbel1
  have hfitx: ∀j,j<n→Arc (xs.getD j 0):=fun j hj=>hA0 _ (by rw[List.getD_eq_getElem?_getD,List.getElem?_eq_getElem (by rw[HL.out];omega)];exact List.getElem_mem _)
  have HF:=hd_ hfitx
  have HA:=hd_ hA0
  clear hfitx hA0
  go_wp2_with fail
  clear hw hw'
  refine(appendDigits_any w.heap.size (.slice none 0 0) 0 [] _ _ (World.ownsRow_nil _ _ _ _) (by omega) (show Arc _ from⟨by omega,hu2⟩) hbel2.size).mono ?_
  rintro e w3 ⟨v3,rfl,ho3,hb3⟩
  have hstart:w3.ownsRow w.heap.size 5 1 v3 (body (ahead xs 0)).length (vals (body (ahead xs 0))):=by
   rw[ahead_zero,HX0.out,HX1.out];simpa using ho3
  have hbel3:Below w.heap.size w w3:=hbel2.trans hb3
  have hb3':Ins w3 (some ⟨b,off,none⟩) n xs:=hb.below hbel3
  have hcl3:=hb3'.2.2 (by omega)
  clear ho3 hb3 hb2 hbel2
  by_cases hc2:c=2
  ·subst hc2
   obtain rfl:n=2:=by omega
   have hend:OMade w (encO xs) 0 (.returned (.tuple #[v3,.int .i64 0])) w3:=by
    have e:encO xs=body (ahead xs 0):=by unfold encO;rw[ahead_all (by rw[HL.out];exact lr_ _)]
    rw[e]
    exact oMade_own hstart (ahead_fit _ _) hbel3
   clear hcl3 hstart hbel3 hb3'
   go_wp2
   go_loopw [4,22] (fun x y wr=>x=v3∧y=.int .i64 0∧wr=w3) (fun _ _ _=>0)
   case atStart=>exact⟨rfl,rfl,rfl⟩
   case round=>
    obtain⟨rfl,rfl,rfl⟩:=hrel
    go_wp2
    go_ret2
    exact hend
  ·clear hb3'
   go_wp2
   go_loopw [4,22] (fun x y wr=>∃k:Nat,y=.int .i64 k∧k≤n - 2∧wr.ownsRow w.heap.size 5 1 x (body (ahead xs k)).length (vals (body (ahead xs k)))∧Below w.heap.size w wr) (fun _ y _=>n - (intOf y).toNat)
   case atStart=>exact⟨0,rfl,by omega,hstart,hbel3⟩
   case round=>
    obtain⟨k,rfl,hk,hrow,hbw⟩:=hrel
    clear hstart hcl3 hbel3
    by_cases hlt:k<n - 2
    ·obtain⟨b',off',hA,_,hcl4⟩:=(hb.below hbw).2.2 (by omega)
     cases hA
     have hcell:=hcl4 (2+k) (by omega)
     rw[←Nat.add_assoc] at hcell
     have harc:=HF.out (2+k) (by omega)
     have hstep:=ahead_step (l:=xs) (k:=k) (by rw[HL.out];omega)
     have hL:=ahead_length HO.out (k:=k) (by omega)
     obtain⟨x,hx⟩:=nm_ (xs.getD (2+k) 0)
     rw[hx] at hcell harc hstep
     have HS:=hd_ hstep
     clear hcl4 hstep hx
     go_wp2_with fail
     refine(appendDigits_any w.heap.size u4 _ _ x _ hrow (by omega) harc hbw.size).mono ?_
     rintro e w4 ⟨v4,rfl,ho4,hb4⟩
     go_wp2_with fail
     go_roundw
     case rel=>exact⟨k+1,by go_num,by omega,by rw[HS.out,List.length_append,vals_append];exact ho4,hbw.trans hb4⟩
     case measure=>simp[intOf];omega
    ·have hend:OMade w (encO xs) 0 (.returned (.tuple #[u4,.int .i64 0])) wr:=by
      have e:encO xs=body (ahead xs k):=by unfold encO;rw[ahead_all (by rw[HL.out];omega)]
      rw[e]
      exact oMade_own hrow (ahead_fit _ _) hbw
     go_wp2
     go_ret2
     exact hend
 ·have e1:putO xs=([],22):=by unfold putO;rw[if_neg ho]
  have ho':objB xs=false:=by simpa using ho
  rw[e1]
  clear e1 ho
  go_enter Tryz.func49,Tryz.ntmps49
  go_wp2_with fail
  refine(object_any _ _ _ _ _ hb hc hm').mono ?_
  rw[ho']
  rintro e w1 ⟨rfl,q,rfl⟩
  go_wp2
  go_ret2
  exact oMade_none _ _ _ (below_drewN q)
end Go.Proofs.YtkjkhoglkpepiaaGreatDoor.intc
namespace Go.Proofs.YtkjkhoglkpepiaaGreatDoor.intc
open Go.RowKit tlvc intm
theorem refPutOID_any (A:Option Addr)(n c:Nat)(xs:List Int)(w:World)(hb:Ins w A n xs)(hc:n≤c)(hm:c≤maxLen):
 Calls Tryz.prog 157 #[.slice A n c] w (OMade w (putO xs).1 (putO xs).2):=by
 obtain⟨i0,hi0',hz0,hz1,hz2⟩:=info_parts Tryz.info5
 have hm':=hm
 unfold maxLen at hm
 by_cases ho:objB xs=true
 ·have e1:(putO xs).1=encO xs:=by unfold putO;rw[if_pos ho]
  have e2:(putO xs).2=0:=by unfold putO;rw[if_pos ho]
  rw[e1,e2]
  have hobj:=(objB_iff xs).1 ho
  have hlen:=hb.len
  have HO:=hd_ ho
  have HL:=hd_ hlen
  have hn2:2≤n:=by omega
  have hn16:n≤16:=by omega
  have hA0:=hobj.2.2.1
  clear e1 e2 hobj hlen ho
  go_enter Tryz.func157,Tryz.ntmps157
  go_wp2_with fail
  refine(refObject_any _ _ _ _ _ hb hc hm').mono ?_
  rw[HO.out]
  rintro e w1 ⟨rfl,q,rfl⟩
  have hb1:=hb.drewN q
  have hbel1:Below w.heap.size w (w.drewN q):=below_drewN q
  obtain⟨w1,hw1⟩:=nm_ (w.drewN q)
  rw[hw1] at hb1 hbel1⊢
  clear hw1
  obtain⟨b,off,rfl,_,hcl⟩:=hb1.2.2 (by omega)
  have hc0:w1.cell? ⟨b,off,none⟩=some (.int .i64 (xs.getD 0 0)):=by simpa using hcl 0 (by omega)
  have hc1:=hcl 1 (by omega)
  have hu0:0≤xs.getD 0 0∧xs.getD 0 0≤268435455:=hA0 _ (by rw[List.getD_eq_getElem?_getD,List.getElem?_eq_getElem (by rw[HL.out];omega)];exact List.getElem_mem _)
  have hu1:0≤xs.getD 1 0∧xs.getD 1 0≤268435455:=hA0 _ (by rw[List.getD_eq_getElem?_getD,List.getElem?_eq_getElem (by rw[HL.out];omega)];exact List.getElem_mem _)
  have hu2:40*xs.getD 0 0+xs.getD 1 0≤268435455:=((objB_iff xs).1 HO.out).2.2.2.2.2
  obtain⟨x0,hx0⟩:=nm_ (xs.getD 0 0)
  obtain⟨x1,hx1⟩:=nm_ (xs.getD 1 0)
  rw[hx0] at hc0 hu0 hu2
  rw[hx1] at hc1 hu1 hu2
  have hw:=IntWalk.wrap64_in (40*x0) (by omega)
  have hw':=IntWalk.wrap64_in (40*x0+x1) (by omega)
  have HX0:=hd_ hx0
  have HX1:=hd_ hx1
  clear hx0 hx1 hcl
  have hd0:({heap:=w1.heap,tape:=w1.tape,drawn:=w1.drawn+1,os:=w1.os,output:=w1.output}:World).cell? ⟨b,off,none⟩=some (.int .i64 (x0)):=hc0
  have hd1:({heap:=w1.heap,tape:=w1.tape,drawn:=w1.drawn+1,os:=w1.os,output:=w1.output}:World).cell? ⟨b,off+1,none⟩=some (.int .i64 (x1)):=hc1
  go_wp2
  have hi0:(0:Int)< (n:Int):=by omega
  have hi1:(1:Int)< (n:Int):=by omega
  have hj0:0<n:=by omega
  have hj1:1<n:=by omega
  go_still_tail 8,(by kernel_rfl)
  change wpList _ _ _ _ _ w1.drew
  have hb2:Ins w1.drew (some ⟨b,off,none⟩) n xs:=hb1
  have hbel2:Below w.heap.size w w1.drew:=hbel1.trans ((below_drewN (w:=w1) 1).mono hbel1.size)
  obtain⟨w2,hw2⟩:=nm_ (w1.drew)
  rw[hw2] at hb2 hbel2⊢
  clear hw2 hd0 hd1 hc0 hc1 hb1 hbel1
  have hfitx: ∀j,j<n→Arc (xs.getD j 0):=fun j hj=>hA0 _ (by rw[List.getD_eq_getElem?_getD,List.getElem?_eq_getElem (by rw[HL.out];omega)];exact List.getElem_mem _)
  have HF:=hd_ hfitx
  have HA:=hd_ hA0
  clear hfitx hA0
  go_wp2_with fail
  clear hw hw'
  refine(digits_any _ _ (show Arc _ from⟨by omega,hu2⟩)).mono ?_
  rintro e w3 ⟨v3,rfl,ho3,hb3⟩
  have hbel3:Below w.heap.size w w3:=hbel2.trans (hb3.mono hbel2.size)
  have hstart:w3.ownsRow w.heap.size 5 1 v3 (body (ahead xs 0)).length (vals (body (ahead xs 0))):=by
   rw[ahead_zero,HX0.out,HX1.out]
   exact own_base ho3 hbel2.size
  clear ho3 hb3 hb2 hbel2
  go_wp2
  rw[IntWalk.i64_in (40*x0) (by omega),IntWalk.i64_in (40*x0+x1) (by omega)]
  go_loopw [5,6] (fun x y wr=>∃k:Nat,y=.int .i64 ((2+k:Nat):Int)∧2+k≤n∧wr.ownsRow w.heap.size 5 1 x (body (ahead xs k)).length (vals (body (ahead xs k)))∧Below w.heap.size w wr) (fun _ y _=>n - (intOf y).toNat)
  case atStart=>exact⟨0,rfl,by omega,hstart,hbel3⟩
  case round=>
   obtain⟨k,rfl,hk,hrow,hbw⟩:=hrel
   clear hstart hbel3
   by_cases hlt:2+k<n
   ·obtain⟨b',off',hA,_,hcl4⟩:=(hb.below hbw).2.2 (by omega)
    cases hA
    have hcell:=hcl4 (2+k) (by omega)
    have harc:=HF.out (2+k) (by omega)
    have hstep:=ahead_step (l:=xs) (k:=k) (by rw[HL.out];omega)
    have hL:=ahead_length HO.out (k:=k) (by omega)
    obtain⟨x,hx⟩:=nm_ (xs.getD (2+k) 0)
    rw[hx] at hcell harc hstep
    have HS:=hd_ hstep
    have hdl:=digs_length harc
    clear hcl4 hstep hx
    go_wp2_with fail
    refine(digits_any x _ harc).mono ?_
    rintro e w4 ⟨v4,rfl,ho4,hb4⟩
    obtain⟨A4,c4,rfl,hc41,hc42,_⟩:=own_shape ho4
    have hby4:=Bys.own ho4 (digs_bytes x)
    have hrow4:=own_below hrow hb4
    have hbw4:Below w.heap.size w w4:=hbw.trans (hb4.mono hbw.size)
    clear ho4 hb4 hrow hbw
    go_wp2_with (at_builtin;refine wpl_app rfl (.tmp 26) (.tmp 31) 34 rfl w.heap.size 5 i0 (.int .u8 0) Tryz.underlying34 hi0' hz0 hz1 hz2 rfl u5 _ _ rfl hrow4 A4 (digs x).length c4 (digs x) rfl hby4 (by omega) hbw4.size ?_;intro v' w5 ho5 hg5)
    go_roundw
    case rel=>exact⟨k+1,by go_num,by omega,by rw[HS.out,List.length_append,vals_append];exact ho5,hbw4.grown hg5 hbw4.size fun i hi=>(hrow4.lt i hi).1⟩
    case measure=>simp[intOf];omega
   ·have hend:OMade w (encO xs) 0 (.returned (.tuple #[u5,.int .i64 0])) wr:=by
     have e:encO xs=body (ahead xs k):=by unfold encO;rw[ahead_all (by rw[HL.out];omega)]
     rw[e]
     exact oMade_own hrow (ahead_fit _ _) hbw
    go_wp2
    go_ret2
    exact hend
 ·have e1:putO xs=([],22):=by unfold putO;rw[if_neg ho]
  have ho':objB xs=false:=by simpa using ho
  rw[e1]
  clear e1 ho
  go_enter Tryz.func157,Tryz.ntmps157
  go_wp2_with fail
  refine(refObject_any _ _ _ _ _ hb hc hm').mono ?_
  rw[ho']
  rintro e w1 ⟨rfl,q,rfl⟩
  go_wp2
  go_ret2
  exact oMade_none _ _ _ (below_drewN q)
end Go.Proofs.YtkjkhoglkpepiaaGreatDoor.intc
namespace Go.Proofs.YtkjkhoglkpepiaaGreatDoor.intc
open Go.RowKit tlvc intm
theorem Tryz.info3:(Tryz.prog.info? 3).map (fun i=>(i.zero,i.size,i.bytes))=some (some (.int .i64 0),1,8):=by kernel_rfl
theorem and_128 {y:Int}(h0:0≤y)(h:y≤255):bits .and .u8 y 128=if 128≤y then 128 else 0:=by
 have key: ∀k:Fin 256,bits .and .u8 (k.val:Int) 128=if 128≤(k.val:Int) then 128 else 0:=by decide+kernel
 obtain⟨k,rfl⟩:=Int.eq_ofNat_of_zero_le h0
 exact key ⟨k,by omega⟩
def IHere (B:Nat)(A:Option Addr)(c:Nat)(ys:List Int)(w':World):Prop:=
 Ins w' A ys.length ys∧ys.length≤c∧c≤maxLen∧(∀b off,A=some ⟨b,off,none⟩→B≤b∧off=0)
def IMade (w:World)(ys:List Int)(e:Ending)(w':World):Prop:=
 ∃A c,e=.returned (.slice A ys.length c)∧IHere w.heap.size A c ys w'∧Below w.heap.size w w'
theorem iHere_own {B:Nat}{w':World}{v:Value}{n:Nat}{ys:List Int}(h:w'.ownsRow B 3 1 v n (ivals ys))(hf:Fit8 ys): ∃A c,v=.slice A ys.length c∧IHere B A c ys w':=by
 have hn:ys.length=n:=by have:=h.1;rw[ivals_length] at this;omega
 subst hn
 rcases h.2 with ⟨rfl,h0⟩ | ⟨g,cap,cur,rfl,hg,hh,hc,hm,_⟩
 ·have e:ys=[]:=List.eq_nil_of_length_eq_zero h0
  subst e
  exact⟨none,0,rfl,⟨Ins.nil_ _ _,lr_ _,Nat.zero_le _,fun _ _ h=>by cases h⟩⟩
 ·exact⟨_,cap,rfl,⟨Ins.own h hf,hc,hm,fun b off h=>by cases h;exact⟨hg,rfl⟩⟩⟩
def ArcRound (B:Nat)(w:World)(zs:List Int)(v:Value)(m:Int)(wr:World):Prop:=
 ∃a,runA zs=(a,m)∧wr.ownsRow B 3 1 v a.length (ivals a)∧(a=[]→v=.slice none 0 0)∧Below B w wr
theorem ins_new {w:World}{xs:List Int}{c:Array Value}{e:TypeId}{fr:Nat × Nat}{b m:Nat}(hc:c=(ivals xs).toArray)(hf:Fit8 xs)(hm:m=xs.length)(hb:b=w.heap.size):Ins (w.alloc (.cells c e fr)) (some ⟨b,0,none⟩) m xs:=by
 subst hc hm hb
 refine⟨rfl,hf,fun _=>⟨_,_,rfl,by simp,fun j hj=>?_⟩⟩
 rw[Nat.zero_add,World.cell?_alloc_mark]
 simp[ivals,List.getD_eq_getElem?_getD,List.getElem?_eq_getElem hj]
theorem fit8_one {x:Int}(h:I64 x):Fit8 [x]:=by intro y hy;simp at hy;rw[hy];exact h
theorem fit8_two {x y:Int}(h:I64 x)(k:I64 y):Fit8 [x,y]:=by
 intro z hz
 simp at hz
 rcases hz with rfl |rfl
 ·exact h
 ·exact k
theorem take_next {ys:List Int}{k:Nat}{x:Int}(h:k<ys.length)(hx:ys.getD k 0=x):ys.take (k+1)=ys.take k++[x]:=by
 rw[List.take_succ_eq_append_getElem h,←hx]
 simp[List.getD_eq_getElem?_getD,List.getElem?_eq_getElem h]
theorem tdiv_40 {N:Int}(h:I64 N): -9223372036854775808≤40*N.tdiv 40∧40*N.tdiv 40≤9223372036854775807∧ -40<N - 40*N.tdiv 40∧N - 40*N.tdiv 40<40:=by
 unfold I64 at h
 have h1:=Int.mul_tdiv_add_tmod N 40
 have h2:N.tmod 40<40:=Int.tmod_lt_of_pos N (by decide)
 have h3: -40<N.tmod 40:=Int.lt_tmod_of_pos N (by decide)
 have h4:(0≤N→0≤N.tmod 40)∧(N≤0→N.tmod 40≤0):=⟨fun h=>Int.tmod_nonneg 40 h,fun h=>by
  have:=Int.tmod_nonneg (a:= -N) 40 (by omega)
  rw[Int.neg_tmod] at this
  omega⟩
 omega
theorem arc_more {B:Nat}{w wr:World}{ys:List Int}{k:Nat}{v:Value}{m x N:Int}(h:ArcRound B w (ys.take k) v m wr)(hN:wrap64 (m*128)+x%128=N)(hx:128≤x)(ht:ys.take (k+1)=ys.take k++[x]):ArcRound B w (ys.take (k+1)) v N wr:=by
 obtain⟨a,h1,h2,h3,h4⟩:=h
 refine⟨a,?_,h2,h3,h4⟩
 rw[ht,runA_snoc,h1,←hN]
 unfold stepA
 rw[if_pos hx]
theorem arc_first {B:Nat}{w wr w':World}{ys ps:List Int}{k:Nat}{v':Value}{m x N:Int}{o:Obj}(hB:B≤wr.heap.size)(h1:runA (ys.take k)=([],m))(h4:Below B w wr)(hN:wrap64 (m*128)+x%128=N)(hx: ¬128≤x)(ht:ys.take (k+1)=ys.take k++[x])(hps:arcs2 N=ps)
 {n:Nat} (hn:n=ps.length) (ho:w'.ownsRow B 3 1 v' n (ivals ps)) (hg:(wr.alloc o).grownBy w' none):ArcRound B w (ys.take (k+1)) v' 0 w':=by
 subst hn
 refine⟨ps,?_,ho,fun e=>?_,(h4.alloc hB o).grown hg (by simp;omega) fun j hj=>by cases hj⟩
 ·rw[ht,runA_snoc,h1,←hps,←hN]
  unfold stepA
  rw[if_neg hx,if_pos rfl]
 ·exact absurd (hps.trans e) (arcs2_ne N)
theorem arc_next {B:Nat}{w wr w':World}{ys a:List Int}{k:Nat}{v v':Value}{m x N:Int}{o:Obj}(hB:B≤wr.heap.size)(h1:runA (ys.take k)=(a,m))(ha:a≠[])(h2:wr.ownsRow B 3 1 v a.length (ivals a))(h4:Below B w wr)(hN:wrap64 (m*128)+x%128=N)(hx: ¬128≤x)(ht:ys.take (k+1)=ys.take k++[x])
 {n:Nat} (hn:n=a.length+1) (ho:w'.ownsRow B 3 1 v' n (ivals a++ivals [N])) (hg:(wr.alloc o).grownBy w' v.ownBlock):ArcRound B w (ys.take (k+1)) v' 0 w':=by
 subst hn
 refine⟨a++[N],?_,?_,fun e=>by simp at e,(h4.alloc hB o).grown hg (by simp;omega) fun j hj=>(h2.lt j hj).1⟩
 ·rw[ht,runA_snoc,h1,←hN]
  unfold stepA
  rw[if_neg hx,if_neg ha]
 ·rw[ivals_append,List.length_append];exact ho
theorem arc_end {w wr:World}{ys:List Int}{k:Nat}{v:Value}{m:Int}(h:ArcRound w.heap.size w (ys.take k) v m wr)(hk:ys.length≤k):IMade w (arcsF ys) (.returned v) wr:=by
 rw[List.take_of_length_le hk] at h
 obtain⟨a,h1,h2,h3,h4⟩:=h
 have e:arcsF ys=a:=by unfold arcsF;rw[h1]
 have hf:=arcsF_i64 ys
 rw[e] at hf⊢
 obtain⟨A,c,rfl,hh⟩:=iHere_own h2 hf
 exact⟨A,c,rfl,hh,h4⟩
theorem arcs_len {ys a:List Int}{k:Nat}{m:Int}(h:runA (ys.take k)=(a,m))(hk:k≤60):a.length≤61:=by
 have:=runA_length _ (ys.take k) rfl
 rw[h] at this
 have h2:(ys.take k).length≤k:=List.length_take_le _ _
 simp only[] at this
 omega
theorem arcsOf_few (A:Option Addr)(n c:Nat)(xs:List Int)(w:World)(hb:Bys w A n xs)(hc:n≤c)(hm:c≤maxLen)(h60:n≤60):
 Calls Tryz.prog 165 #[.slice A n c] w (IMade w (arcsF xs)):=by
 unfold maxLen at hm
 obtain⟨i0,hi0,hz0,hz1,hz2⟩:=info_parts Tryz.info3
 have hstart:ArcRound w.heap.size w (xs.take 0) (.slice none 0 0) 0 w:=⟨[],rfl,World.ownsRow_nil _ _ _ _,fun _=>rfl,br_ _ _⟩
 have hlen:=hb.len
 have HL:=hd_ hlen
 clear hlen
 go_enter Tryz.func165,Tryz.ntmps165
 go_wp2
 go_loopw [3,4,14] (fun v x y wr=>∃(k:Nat) (m:Int),y=.int .i64 k∧k≤n∧x=.int .i64 m∧ArcRound w.heap.size w (xs.take k) v m wr) (fun _ _ y _=>61 - (intOf y).toNat)
 case atStart=>exact⟨0,0,rfl,by omega,rfl,hstart⟩
 case round=>
  obtain⟨k,m,rfl,hk,rfl,hr⟩:=hrel
  clear hstart
  by_cases hlt:k<n
  ·obtain⟨a,h1,h2,h3,h4⟩:=hr
   have hr:ArcRound w.heap.size w (xs.take k) u3 m wr:=⟨a,h1,h2,h3,h4⟩
   obtain⟨b,off,hA,_,hcl⟩:=(hb.below h4).2.2 (by omega)
   subst hA
   have hc1:=hcl k hlt
   obtain⟨x,hx⟩:=nm_ (xs.getD k 0)
   have hxb:=hb.fit.getD k
   rw[hx] at hc1 hxb
   have ht:=take_next (ys:=xs) (k:=k) (by rw[HL.out];exact hlt) hx
   obtain⟨N,hN⟩:=nm_ (wrap64 (m*128)+x%128)
   have hnot:=not_128 hxb.1 hxb.2
   have hand:=and_128 hxb.1 hxb.2
   have hwl:=wrap_low m x
   have hor:=or_i64 7 (by decide) (wrap64 (m*128)) (x%128) (wrap_i64 _) hwl.2 (by omega) (by omega)
   rw[hN] at hor hwl
   have hNi:=hwl.1
   have hNb: -9223372036854775808≤N∧N≤9223372036854775807:=hNi
   have HN:=hd_ hN
   have HT:=hd_ ht
   have H1:=hd_ h1
   have hal:=arcs_len h1 (by omega)
   have haf:Fit8 a:=by have:=(runA_i64 _ (xs.take k) rfl).1;rw[h1] at this;exact this
   have hB:=h4.size
   clear hcl hx hN ht h1 hwl
   by_cases hx8:128≤x
   ·rw[if_pos hx8] at hand
    have hnext:=arc_more hr HN.out hx8 HT.out
    clear hr h2 h3
    go_wp2
    go_roundw
    case rel=>exact⟨k+1,N,by go_num,by omega,rfl,hnext⟩
    case measure=>simp[intOf];omega
   ·rw[if_neg hx8] at hand
    by_cases ha:a=[]
    ·subst ha
     obtain rfl:=h3 rfl
     have hT4:=tdiv_40 hNi
     obtain⟨T,hT⟩:=nm_ (N.tdiv 40)
     rw[hT] at hT4
     have ha2:arcs2 N=if T≤2 then [T,N - 40*T] else [2,N - 80]:=by unfold arcs2;rw[hT]
     have HA2:=hd_ ha2
     clear hr ha2 h3
     have hnn: ∀w':World,(binOp .eql 83 (.slice none 0 0) (.slice none 0 0)).run Tryz.prog w'=.ok (.bool true) w':=fun w'=>Lib.run_eql_slice_nil (P:=Tryz.prog) w' 83 3 none 0 0 0 0 Tryz.underlying83
     by_cases hT2:T≤2
     ·go_wp2_with (at_builtin;refine wpl_iapp rfl (.tmp 38) (.tmp 44) 83 rfl w.heap.size 3 i0 (.int .i64 0) Tryz.underlying83 hi0 hz0 hz1 hz2 rfl (.slice none 0 0) 0 [] rfl (World.ownsRow_nil _ _ _ _) _ 2 2 [T,N - 40*T] rfl (ins_new rfl (fit8_two (by unfold I64;omega) (by unfold I64;omega)) rfl (by simp)) (by omega) (by simp;omega) ?_;intro v' w2 ho2 hg2 _)
      go_roundw
      case rel=>exact⟨k+1,0,by go_num,by omega,rfl,arc_first hB H1.out h4 HN.out hx8 HT.out (by rw[HA2.out,if_pos hT2]) rfl ho2 hg2⟩
      case measure=>simp[intOf];omega
     ·go_wp2_with (at_builtin;refine wpl_iapp rfl (.tmp 38) (.tmp 44) 83 rfl w.heap.size 3 i0 (.int .i64 0) Tryz.underlying83 hi0 hz0 hz1 hz2 rfl (.slice none 0 0) 0 [] rfl (World.ownsRow_nil _ _ _ _) _ 2 2 [2,N - 80] rfl (ins_new rfl (fit8_two (by unfold I64;omega) (by unfold I64;omega)) rfl (by simp)) (by omega) (by simp;omega) ?_;intro v' w2 ho2 hg2 _)
      go_roundw
      case rel=>exact⟨k+1,0,by go_num,by omega,rfl,arc_first hB H1.out h4 HN.out hx8 HT.out (by rw[HA2.out,if_neg hT2]) rfl ho2 hg2⟩
      case measure=>simp[intOf];omega
    ·obtain⟨A3,c3,hv,hc31,hc32,hA3⟩:=own_shape h2
     obtain⟨g,hg3,_,_⟩:=hA3 0 (by cases a with |nil=>exact absurd rfl ha |cons _ _=>simp)
     subst hg3
     subst hv
     have hHA:=hd_ ha
     clear hr h3 hA3 ha
     have hnn:=fun w'=>Lib.run_eql_slice_nil (P:=Tryz.prog) w' 83 3 (some ⟨g,0,none⟩) a.length c3 0 0 Tryz.underlying83
     go_wp2_with (at_builtin;refine wpl_iapp rfl (.tmp 24) (.tmp 26) 83 rfl w.heap.size 3 i0 (.int .i64 0) Tryz.underlying83 hi0 hz0 hz1 hz2 rfl (.slice (some ⟨g,0,none⟩) a.length c3) _ _ rfl (h2.alloc _) _ 1 1 [N] rfl (ins_new rfl (fit8_one hNi) rfl (by simp)) (by omega) (by simp;omega) ?_;intro v' w2 ho2 hg2 _)
     go_roundw
     case rel=>exact⟨k+1,0,by go_num,by omega,rfl,arc_next hB H1.out hHA.out h2 h4 HN.out hx8 HT.out rfl ho2 hg2⟩
     case measure=>simp[intOf];omega
  ·have hend:=arc_end hr (by rw[HL.out];omega)
   clear hr
   go_wp2
   go_ret
   exact hend
theorem arcsOf_many (A:Option Addr)(n c:Nat)(xs:List Int)(w:World)(hb:Bys w A n xs)(hc:n≤c)(hm:c≤maxLen)(h60:60<n):
 Calls Tryz.prog 165 #[.slice A n c] w (IMade w (arcsF (xs.take 60))):=by
 unfold maxLen at hm
 obtain⟨i0,hi0,hz0,hz1,hz2⟩:=info_parts Tryz.info3
 replace hb:=hb.upto (k:=60) (by omega)
 obtain⟨ys,hys⟩:=nm_ (xs.take 60)
 rw[hys] at hb⊢
 clear hys
 have hmax:max (60:Int) 0=60:=by decide
 have hstart:ArcRound w.heap.size w (ys.take 0) (.slice none 0 0) 0 w:=⟨[],rfl,World.ownsRow_nil _ _ _ _,fun _=>rfl,br_ _ _⟩
 have hlen:=hb.len
 have HL:=hd_ hlen
 clear hlen
 go_enter Tryz.func165,Tryz.ntmps165
 go_wp2
 go_loopw [3,4,14] (fun v x y wr=>∃(k:Nat) (m:Int),y=.int .i64 k∧k≤60∧x=.int .i64 m∧ArcRound w.heap.size w (ys.take k) v m wr) (fun _ _ y _=>61 - (intOf y).toNat)
 case atStart=>exact⟨0,0,rfl,by omega,rfl,hstart⟩
 case round=>
  obtain⟨k,m,rfl,hk,rfl,hr⟩:=hrel
  clear hstart
  by_cases hlt:k<60
  ·obtain⟨a,h1,h2,h3,h4⟩:=hr
   have hr:ArcRound w.heap.size w (ys.take k) u3 m wr:=⟨a,h1,h2,h3,h4⟩
   obtain⟨b,off,hA,_,hcl⟩:=(hb.below h4).2.2 (by omega)
   subst hA
   have hc1:=hcl k hlt
   obtain⟨x,hx⟩:=nm_ (ys.getD k 0)
   have hxb:=hb.fit.getD k
   rw[hx] at hc1 hxb
   have ht:=take_next (ys:=ys) (k:=k) (by rw[HL.out];exact hlt) hx
   obtain⟨N,hN⟩:=nm_ (wrap64 (m*128)+x%128)
   have hnot:=not_128 hxb.1 hxb.2
   have hand:=and_128 hxb.1 hxb.2
   have hwl:=wrap_low m x
   have hor:=or_i64 7 (by decide) (wrap64 (m*128)) (x%128) (wrap_i64 _) hwl.2 (by omega) (by omega)
   rw[hN] at hor hwl
   have hNi:=hwl.1
   have hNb: -9223372036854775808≤N∧N≤9223372036854775807:=hNi
   have HN:=hd_ hN
   have HT:=hd_ ht
   have H1:=hd_ h1
   have hal:=arcs_len h1 (by omega)
   have haf:Fit8 a:=by have:=(runA_i64 _ (ys.take k) rfl).1;rw[h1] at this;exact this
   have hB:=h4.size
   clear hcl hx hN ht h1 hwl
   by_cases hx8:128≤x
   ·rw[if_pos hx8] at hand
    have hnext:=arc_more hr HN.out hx8 HT.out
    clear hr h2 h3
    go_wp2
    go_roundw
    case rel=>exact⟨k+1,N,by go_num,by omega,rfl,hnext⟩
    case measure=>simp[intOf];omega
   ·rw[if_neg hx8] at hand
    by_cases ha:a=[]
    ·subst ha
     obtain rfl:=h3 rfl
     have hT4:=tdiv_40 hNi
     obtain⟨T,hT⟩:=nm_ (N.tdiv 40)
     rw[hT] at hT4
     have ha2:arcs2 N=if T≤2 then [T,N - 40*T] else [2,N - 80]:=by unfold arcs2;rw[hT]
     have HA2:=hd_ ha2
     clear hr ha2 h3
     have hnn: ∀w':World,(binOp .eql 83 (.slice none 0 0) (.slice none 0 0)).run Tryz.prog w'=.ok (.bool true) w':=fun w'=>Lib.run_eql_slice_nil (P:=Tryz.prog) w' 83 3 none 0 0 0 0 Tryz.underlying83
     by_cases hT2:T≤2
     ·go_wp2_with (at_builtin;refine wpl_iapp rfl (.tmp 38) (.tmp 44) 83 rfl w.heap.size 3 i0 (.int .i64 0) Tryz.underlying83 hi0 hz0 hz1 hz2 rfl (.slice none 0 0) 0 [] rfl (World.ownsRow_nil _ _ _ _) _ 2 2 [T,N - 40*T] rfl (ins_new rfl (fit8_two (by unfold I64;omega) (by unfold I64;omega)) rfl (by simp)) (by omega) (by simp;omega) ?_;intro v' w2 ho2 hg2 _)
      go_roundw
      case rel=>exact⟨k+1,0,by go_num,by omega,rfl,arc_first hB H1.out h4 HN.out hx8 HT.out (by rw[HA2.out,if_pos hT2]) rfl ho2 hg2⟩
      case measure=>simp[intOf];omega
     ·go_wp2_with (at_builtin;refine wpl_iapp rfl (.tmp 38) (.tmp 44) 83 rfl w.heap.size 3 i0 (.int .i64 0) Tryz.underlying83 hi0 hz0 hz1 hz2 rfl (.slice none 0 0) 0 [] rfl (World.ownsRow_nil _ _ _ _) _ 2 2 [2,N - 80] rfl (ins_new rfl (fit8_two (by unfold I64;omega) (by unfold I64;omega)) rfl (by simp)) (by omega) (by simp;omega) ?_;intro v' w2 ho2 hg2 _)
      go_roundw
      case rel=>exact⟨k+1,0,by go_num,by omega,rfl,arc_first hB H1.out h4 HN.out hx8 HT.out (by rw[HA2.out,if_neg hT2]) rfl ho2 hg2⟩
      case measure=>simp[intOf];omega
    ·obtain⟨A3,c3,hv,hc31,hc32,hA3⟩:=own_shape h2
     obtain⟨g,hg3,_,_⟩:=hA3 0 (by cases a with |nil=>exact absurd rfl ha |cons _ _=>simp)
     subst hg3
     subst hv
     have hHA:=hd_ ha
     clear hr h3 hA3 ha
     have hnn:=fun w'=>Lib.run_eql_slice_nil (P:=Tryz.prog) w' 83 3 (some ⟨g,0,none⟩) a.length c3 0 0 Tryz.underlying83
     go_wp2_with (at_builtin;refine wpl_iapp rfl (.tmp 24) (.tmp 26) 83 rfl w.heap.size 3 i0 (.int .i64 0) Tryz.underlying83 hi0 hz0 hz1 hz2 rfl (.slice (some ⟨g,0,none⟩) a.length c3) _ _ rfl (h2.alloc _) _ 1 1 [N] rfl (ins_new rfl (fit8_one hNi) rfl (by simp)) (by omega) (by simp;omega) ?_;intro v' w2 ho2 hg2 _)
     go_roundw
     case rel=>exact⟨k+1,0,by go_num,by omega,rfl,arc_next hB H1.out hHA.out h2 h4 HN.out hx8 HT.out rfl ho2 hg2⟩
     case measure=>simp[intOf];omega
  ·have hend:=arc_end hr (by rw[HL.out];omega)
   clear hr
   go_wp2
   go_ret
   exact hend
theorem arcsOf_any (A:Option Addr)(n c:Nat)(xs:List Int)(w:World)(hb:Bys w A n xs)(hc:n≤c)(hm:c≤maxLen):
 Calls Tryz.prog 165 #[.slice A n c] w (IMade w (arcsF (xs.take 60))):=by
 by_cases h:n≤60
 ·have:=arcsOf_few A n c xs w hb hc hm h
  rw[List.take_of_length_le (by rw[hb.len];exact h)]
  exact this
 ·exact arcsOf_many A n c xs w hb hc hm (by omega)
end Go.Proofs.YtkjkhoglkpepiaaGreatDoor.intc
namespace Go.Proofs.YtkjkhoglkpepiaaGreatDoor.intc
open Go.RowKit tlvc intm
def IOMade (w:World)(ys:List Int)(er:Int)(e:Ending)(w':World):Prop:=
 ∃A c,e=.returned (.tuple #[.slice A ys.length c,.int .i64 er])∧IHere w.heap.size A c ys w'∧Below w.heap.size w w'
theorem ioMade_none (w w':World)(er:Int)(h:Below w.heap.size w w'):IOMade w [] er (.returned (.tuple #[.slice none 0 0,.int .i64 er])) w':=
 ⟨none,0,rfl,⟨Ins.nil_ _ _,lr_ _,Nat.zero_le _,fun _ _ h=>by cases h⟩,h⟩
theorem putO_yes {l:List Int}(h:objB l=true):putO l=(encO l,0):=by unfold putO;rw[if_pos h]
theorem putO_no {l:List Int}(h:objB l=false):putO l=([],22):=by unfold putO;rw[h];rfl
theorem asOID_bad (A A1:Option Addr)(n c m c1:Nat)(xs l:List Int)(w:World)(hb:Bys w A n xs)(hi:Ins w A1 m l)(hc1:m≤c1)(hm1:c1≤maxLen)(h:objB l=false):
 Calls Tryz.prog 164 #[.slice A n c,.slice A1 m c1,.int .i64 22,.func (.func 49) #[] #[]] w fun e w'=>e=.returned (.tuple #[.slice none 0 0,.int .i64 22])∧Below w.heap.size w w':=by
 go_enter Tryz.func164,Tryz.ntmps164
 go_wp2_with fail
 refine(putOID_any _ _ _ _ _ hi hc1 hm1).mono ?_
 rw[putO_no h]
 rintro e w1 ⟨A2,c2,rfl,hh,hbel⟩
 go_wp2_with fail
 go_ret2
 exact⟨rfl,hbel⟩
theorem asOID_no (A A1:Option Addr)(n c m c1:Nat)(xs l:List Int)(w:World)(hb:Bys w A n xs)(hi:Ins w A1 m l)(hc1:m≤c1)(hm1:c1≤maxLen)(h:objB l=true)(hne: ¬encO l=xs):
 Calls Tryz.prog 164 #[.slice A n c,.slice A1 m c1,.int .i64 22,.func (.func 49) #[] #[]] w fun e w'=>e=.returned (.tuple #[.slice none 0 0,.int .i64 22])∧Below w.heap.size w w':=by
 have hs:sameB (encO l) xs=false:=sameB_no (encO_bytes l) hb.fit hne
 clear hne
 go_enter Tryz.func164,Tryz.ntmps164
 go_wp2_with fail
 refine(putOID_any _ _ _ _ _ hi hc1 hm1).mono ?_
 rw[putO_yes h]
 rintro e w1 ⟨A2,c2,rfl,hh,hbel⟩
 go_wp2_with fail
 refine(equal_any _ _ _ _ _ _ _ _ _ hh.1 (hb.below hbel)).mono ?_
 rw[hs]
 rintro e w2 ⟨rfl,rfl⟩
 go_wp2_with fail
 go_ret2
 exact⟨rfl,hbel⟩
theorem asOID_yes (A A1:Option Addr)(n c m c1:Nat)(xs l:List Int)(w:World)(hb:Bys w A n xs)(hi:Ins w A1 m l)(hc1:m≤c1)(hm1:c1≤maxLen)(h:objB l=true)(he:encO l=xs):
 Calls Tryz.prog 164 #[.slice A n c,.slice A1 m c1,.int .i64 22,.func (.func 49) #[] #[]] w fun e w'=>e=.returned (.tuple #[.slice A1 m c1,.int .i64 0])∧Below w.heap.size w w':=by
 have hs:sameB (encO l) xs=true:=(sameB_iff (encO_bytes l) hb.fit).2 he
 have HE:=hd_ he
 clear he
 go_enter Tryz.func164,Tryz.ntmps164
 go_wp2_with fail
 refine(putOID_any _ _ _ _ _ hi hc1 hm1).mono ?_
 rw[putO_yes h]
 rintro e w1 ⟨A2,c2,rfl,hh,hbel⟩
 go_wp2_with fail
 refine(equal_any _ _ _ _ _ _ _ _ _ hh.1 (hb.below hbel)).mono ?_
 rw[hs]
 rintro e w2 ⟨rfl,rfl⟩
 go_wp2_with fail
 go_ret2
 exact⟨rfl,hbel⟩
theorem iHere_below {B:Nat}{A:Option Addr}{c:Nat}{ys:List Int}{w w':World}(h:IHere B A c ys w)(hb:Below w.heap.size w w'):IHere B A c ys w':=⟨h.1.below hb,h.2⟩
theorem oid_any (A:Option Addr)(n c:Nat)(xs:List Int)(w:World)(hb:Bys w A n xs)(hc:n≤c)(hm:c≤maxLen):
 Calls Tryz.prog 92 #[.slice A n c] w (IOMade w (oidF xs).1 (oidF xs).2):=by
 by_cases ho:objB (arcsF (xs.take 60))=true
 ·by_cases he:encO (arcsF (xs.take 60))=xs
  ·have e:oidF xs=(arcsF (xs.take 60),0):=by unfold oidF;rw[if_pos ⟨ho,he⟩]
   rw[e]
   have HO:=hd_ ho
   have HE:=hd_ he
   clear e ho he
   go_enter Tryz.func92,Tryz.ntmps92
   go_wp2_with fail
   refine(arcsOf_any _ _ _ _ _ hb hc hm).mono ?_
   rintro e w1 ⟨A1,c1,rfl,hh,hbel⟩
   go_wp2_with fail
   refine(asOID_yes _ _ _ _ _ _ _ _ _ (hb.below hbel) hh.1 hh.2.1 hh.2.2.1 HO.out HE.out).mono ?_
   rintro e w2 ⟨rfl,hbel2⟩
   go_wp2_with fail
   go_ret2
   exact⟨A1,c1,rfl,iHere_below hh hbel2,hbel.trans (hbel2.mono hbel.size)⟩
  ·have e:oidF xs=([],22):=by unfold oidF;rw[if_neg fun h=>he h.2]
   rw[e]
   have HO:=hd_ ho
   have HE:=hd_ he
   clear e ho he
   go_enter Tryz.func92,Tryz.ntmps92
   go_wp2_with fail
   refine(arcsOf_any _ _ _ _ _ hb hc hm).mono ?_
   rintro e w1 ⟨A1,c1,rfl,hh,hbel⟩
   go_wp2_with fail
   refine(asOID_no _ _ _ _ _ _ _ _ _ (hb.below hbel) hh.1 hh.2.1 hh.2.2.1 HO.out HE.out).mono ?_
   rintro e w2 ⟨rfl,hbel2⟩
   go_wp2_with fail
   go_ret2
   exact ioMade_none _ _ _ (hbel.trans (hbel2.mono hbel.size))
 ·have e:oidF xs=([],22):=by unfold oidF;rw[if_neg fun h=>ho h.1]
  have ho':objB (arcsF (xs.take 60))=false:=by simpa using ho
  rw[e]
  have HO:=hd_ ho'
  clear e ho ho'
  go_enter Tryz.func92,Tryz.ntmps92
  go_wp2_with fail
  refine(arcsOf_any _ _ _ _ _ hb hc hm).mono ?_
  rintro e w1 ⟨A1,c1,rfl,hh,hbel⟩
  go_wp2_with fail
  refine(asOID_bad _ _ _ _ _ _ _ _ _ (hb.below hbel) hh.1 hh.2.1 hh.2.2.1 HO.out).mono ?_
  rintro e w2 ⟨rfl,hbel2⟩
  go_wp2_with fail
  go_ret2
  exact ioMade_none _ _ _ (hbel.trans (hbel2.mono hbel.size))
end Go.Proofs.YtkjkhoglkpepiaaGreatDoor.intc
