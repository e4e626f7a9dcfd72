/- Small contracts of layer 2's program: bytes.Equal, PutBool,  -/
import Derived.Test.YtkjkhoglkpepiaaGreatDoorChecked
import Derived.Test.YtkjkhoglkpepiaaGreatDoorKa
import Derived.WalkMore
import Derived.Outline
import Derived.WalkSpells
import Derived.Lib.SlBytesConst
import Derived.Lib.Bytes
set_option maxRecDepth 100000
set_option maxHeartbeats 2000000
set_option linter.unusedVariables false
set_option linter.unusedSimpArgs false
namespace Go.Proofs.YtkjkhoglkpepiaaGreatDoor.intc
open Go.RowKit tlvc
def Here (B:Nat)(A:Option Addr)(c:Nat)(ys:List Int)(w':World):Prop:=
 Bys w' A ys.length ys∧ys.length≤c∧c≤maxLen∧(∀b off,A=some ⟨b,off,none⟩→B≤b∧off=0)
def Made (w:World)(ys:List Int)(e:Ending)(w':World):Prop:=
 ∃A c,e=.returned (.slice A ys.length c)∧Here w.heap.size A c ys w'∧Below w.heap.size w w'
theorem here_new {w:World}{b:Nat}{ys:List Int}{c:Array Value}{e:TypeId}{fr:Nat × Nat}(hb:b=w.heap.size)(hf:Fit ys)(hc:c=(vals ys).toArray)(hm:ys.length≤maxLen):
 Here b (some ⟨b,0,none⟩) ys.length ys (w.alloc (.cells c e fr)):=by
 subst hc hb
 refine⟨⟨rfl,hf,fun _=>⟨_,_,rfl,by simp,fun j hj=>?_⟩⟩,lr_ _,hm,fun b off h=>by cases h;exact⟨lr_ _,rfl⟩⟩
 rw[Nat.zero_add,World.cell?_alloc_mark]
 simp[vals,List.getD_eq_getElem?_getD,List.getElem?_eq_getElem hj]
theorem str_now {w:World}{A:Option Addr}{n:Nat}{xs:List Int}(h:Bys w A n xs)(c:Nat):
 (convert 34 9 (.slice A n c)).run Tryz.prog w=.ok (.string (strOfNums xs)) w:=
 run_str (P:=Tryz.prog) 34 5 Tryz.underlying34 Tryz.underlying5 A n c xs h 9 Tryz.underlying9
def sameB (xs ys:List Int):Bool:=(strOfNums xs).toList==(strOfNums ys).toList
theorem fit_ext: ∀{xs ys:List Int},Fit xs→Fit ys→Lib.bytesOf xs=Lib.bytesOf ys→xs=ys
 | [],[],_,_,_=>rfl
 | [],_::_,_,_,h=>by simp[Lib.bytesOf] at h
 |_::_,[],_,_,h=>by simp[Lib.bytesOf] at h
 |x::xs,y::ys,hx,hy,h=>by
  simp only[Lib.bytesOf,List.map_cons,List.cons.injEq] at h
  have h1:=hx x (by simp)
  have h2:=hy y (by simp)
  have e:x=y:=by
   have:=congrArg UInt8.toNat h.1
   simp only[UInt8.toNat_ofNat'] at this
   omega
  have e2:xs=ys:=fit_ext (fun z hz=>hx z (by simp[hz])) (fun z hz=>hy z (by simp[hz])) h.2
  rw[e,e2]
theorem sameB_iff {xs ys:List Int}(hx:Fit xs)(hy:Fit ys):sameB xs ys=true↔xs=ys:=by
 unfold sameB
 rw[Lib.strOfNums_toList,Lib.strOfNums_toList,beq_iff_eq]
 exact⟨fit_ext hx hy,fun h=>by rw[h]⟩
theorem sameB_no {xs ys:List Int}(hx:Fit xs)(hy:Fit ys)(h:xs≠ys):sameB xs ys=false:=by
 cases e:sameB xs ys
 ·rfl
 ·exact absurd ((sameB_iff hx hy).1 e) h
theorem equal_any (A B:Option Addr)(n c m d:Nat)(xs ys:List Int)(w:World)(hx:Bys w A n xs)(hy:Bys w B m ys):
 Calls Tryz.prog 20 #[.slice A n c,.slice B m d] w fun e w'=>e=.returned (.bool (sameB xs ys))∧w=w':=by
 have h1:=str_now hx c
 have h2:=str_now hy d
 go_enter Tryz.func20,Tryz.ntmps20
 go_wp2
 go_ret
 exact⟨rfl,rfl⟩
def boolB (b:Bool):List Int:=[if b=true then 255 else 0]
theorem boolB_fit (b:Bool):Fit (boolB b):=by intro x hx;simp[boolB] at hx;split at hx<;>omega
theorem putBool_any (b:Bool)(w:World):Calls Tryz.prog 172 #[.bool b] w (Made w (boolB b)):=by
 have hf:=boolB_fit b
 cases b
 ·go_enter Tryz.func172,Tryz.ntmps172
  go_wp2
  go_ret
  exact⟨_,_,rfl,here_new rfl hf rfl (by unfold maxLen;decide),(br_ _ _).alloc (lr_ _) _⟩
 ·go_enter Tryz.func172,Tryz.ntmps172
  go_wp2
  go_ret
  exact⟨_,_,rfl,here_new rfl hf rfl (by unfold maxLen;decide),(br_ _ _).alloc (lr_ _) _⟩
theorem refPutBool_any (b:Bool)(w:World):Calls Tryz.prog 161 #[.bool b] w (Made w (boolB b)):=by
 have hf:=boolB_fit b
 cases b
 ·go_enter Tryz.func161,Tryz.ntmps161
  go_wp2
  go_ret
  exact⟨_,_,rfl,here_new rfl hf rfl (by unfold maxLen;decide),(br_ _ _).alloc (lr_ _) _⟩
 ·go_enter Tryz.func161,Tryz.ntmps161
  go_wp2
  go_ret
  exact⟨_,_,rfl,here_new rfl hf rfl (by unfold maxLen;decide),(br_ _ _).alloc (lr_ _) _⟩
def Made2 (w:World)(ys:List Int)(e:Ending)(w':World):Prop:=
 ∃A c,e=.returned (.tuple #[.slice A ys.length c,.int .i64 0])∧Here w.heap.size A c ys w'∧Below w.heap.size w w'
end Go.Proofs.YtkjkhoglkpepiaaGreatDoor.intc
namespace Go.Proofs.YtkjkhoglkpepiaaGreatDoor.intm
def I64 (n:Int):Prop:= -9223372036854775808≤n∧n≤9223372036854775807
def width (n:Int):Nat:=
 if -128≤n∧n≤127 then 1 else if -32768≤n∧n≤32767 then 2 else if -8388608≤n∧n≤8388607 then 3
 else if -2147483648≤n∧n≤2147483647 then 4 else if -549755813888≤n∧n≤549755813887 then 5
 else if -140737488355328≤n∧n≤140737488355327 then 6 else if -36028797018963968≤n∧n≤36028797018963967 then 7 else 8
theorem width_bd (n:Int):1≤width n∧width n≤8:=by
 unfold width
 repeat' split
 all_goals omega
theorem width_one {n:Int}(h: -128≤n∧n≤127):width n=1:=by unfold width;rw[if_pos h]
theorem width_step {n:Int}(h: ¬(-128≤n∧n≤127))(hb:I64 n):width n=width (n/ 256)+1:=by
 unfold I64 at hb
 have key:width n=1+width (n/ 256):=by
  unfold width
  rw[if_neg h]
  repeat' split
  all_goals omega
 omega
def enc:Nat→Int→List Int
 |0,_=>[]
 |w+1,n=>enc w (n/ 256)++[n%256]
theorem enc_length (w:Nat)(n:Int):(enc w n).length=w:=by
 induction w generalizing n with
 |zero=>rfl
 |succ w ih=>simp[enc,ih]
def putI (n:Int):List Int:=enc (width n) n
theorem putI_length (n:Int):(putI n).length=width n:=enc_length _ _
theorem putI_one {n:Int}(h: -128≤n∧n≤127):putI n=[n%256]:=by unfold putI;rw[width_one h];simp[enc]
theorem putI_step {n:Int}(h: ¬(-128≤n∧n≤127))(hb:I64 n):putI n=putI (n/ 256)++[n%256]:=by
 unfold putI;rw[width_step h hb];rfl
theorem enc_bytes (w:Nat)(n:Int): ∀x∈enc w n,0≤x∧x≤255:=by
 induction w generalizing n with
 |zero=>intro x hx;simp[enc] at hx
 |succ w ih=>
  intro x hx
  simp only[enc,List.mem_append,List.mem_singleton] at hx
  rcases hx with h |rfl
  ·exact ih _ x h
  ·omega
theorem putI_bytes (n:Int): ∀x∈putI n,0≤x∧x≤255:=enc_bytes _ _
theorem enc_getD (w:Nat)(n:Int)(i:Nat)(hi:i<w):(enc w n).getD i 0=n/ 256^ (w - 1 - i)%256:=by
 induction w generalizing n with
 |zero=>omega
 |succ w ih=>
  simp only[enc]
  by_cases h:i<w
  ·rw[List.getD_eq_getElem?_getD,List.getElem?_append_left (by rw[enc_length];exact h),←List.getD_eq_getElem?_getD,ih _ h]
   have e:w+1 - 1 - i=(w - 1 - i)+1:=by omega
   rw[e,Int.pow_succ,Int.mul_comm,Int.ediv_ediv_of_nonneg (by decide)]
  ·have e:i=w:=by omega
   subst e
   rw[List.getD_eq_getElem?_getD,List.getElem?_append_right (by rw[enc_length];exact lr_ _),enc_length]
   simp
def s8 (b:Int):Int:=if b<128 then b else b - 256
def decFrom (a:Int)(xs:List Int):Int:=xs.foldl (fun a x=>a*256+x) a
def dec:List Int→Int
 | []=>0
 |b::r=>decFrom (s8 b) r
theorem decFrom_snoc (a:Int)(xs:List Int)(x:Int):decFrom a (xs++[x])=decFrom a xs*256+x:=by simp[decFrom]
theorem dec_snoc (xs:List Int)(x:Int)(h:xs≠[]):dec (xs++[x])=dec xs*256+x:=by
 cases xs with
 |nil=>exact absurd rfl h
 |cons b r=>exact decFrom_snoc _ r x
theorem dec_one (b:Int):dec [b]=s8 b:=rfl
theorem dec_putI (k:Nat): ∀n:Int,width n≤k→I64 n→dec (putI n)=n:=by
 induction k with
 |zero=>intro n h;have:=width_bd n;omega
 |succ k ih=>
  intro n h hb
  by_cases h1: -128≤n∧n≤127
  ·rw[putI_one h1,dec_one];unfold s8;split<;>omega
  ·have hs:=width_step h1 hb
   have hb2:I64 (n/ 256):=by unfold I64 at hb⊢;omega
   rw[putI_step h1 hb,dec_snoc _ _ (fun e=>by have:=putI_length (n/ 256);have:=width_bd (n/ 256);rw[e] at*;simp at*;omega),ih _ (by omega) hb2]
   omega
theorem dec_put {n:Int}(hb:I64 n):dec (putI n)=n:=dec_putI 8 n (width_bd n).2 hb
def Bytes (xs:List Int):Prop:=∀x∈xs,0≤x∧x≤255
def Least:List Int→Prop
 |b::c::_=>¬((b=0∧c<128)∨(b=255∧128≤c))
 |_=>True
theorem dec_range: ∀(k:Nat) (xs:List Int),xs.length=k+1→Bytes xs→ -(128*256^k)≤dec xs∧dec xs<128*256^k:=by
 intro k
 induction k with
 |zero=>
  intro xs hl hb
  match xs,hl with
  | [b],_=>
   have:=hb b (by simp)
   rw[dec_one];unfold s8;split<;>omega
 |succ k ih=>
  intro xs hl hb
  have hne:xs≠[]:=by intro e;rw[e] at hl;simp at hl
  have he:=(List.dropLast_concat_getLast hne).symm
  have h1:xs.dropLast.length=k+1:=by rw[List.length_dropLast];omega
  have h2:=ih xs.dropLast h1 (fun x hx=>hb x (List.dropLast_subset _ hx))
  have h3:=hb (xs.getLast hne) (List.getLast_mem hne)
  have hne2:xs.dropLast≠[]:=by intro e;rw[e] at h1;simp at h1
  rw[he,dec_snoc _ _ hne2,Int.pow_succ]
  generalize (256:Int)^k=p at*
  omega
theorem enc_dec: ∀(k:Nat) (xs:List Int),xs.length=k+1→Bytes xs→enc (k+1) (dec xs)=xs:=by
 intro k
 induction k with
 |zero=>
  intro xs hl hb
  match xs,hl with
  | [b],_=>
   have:=hb b (by simp)
   rw[dec_one];simp only[enc,List.nil_append];unfold s8
   split
   ·rw[Int.emod_eq_of_lt (by omega) (by omega)]
   ·have:(b - 256)%256=b:=by omega
    rw[this]
 |succ k ih=>
  intro xs hl hb
  have hne:xs≠[]:=by intro e;rw[e] at hl;simp at hl
  have he:=(List.dropLast_concat_getLast hne)
  have h1:xs.dropLast.length=k+1:=by rw[List.length_dropLast];omega
  have h2:=ih xs.dropLast h1 (fun x hx=>hb x (List.dropLast_subset _ hx))
  have h3:=hb (xs.getLast hne) (List.getLast_mem hne)
  have hne2:xs.dropLast≠[]:=by intro e;rw[e] at h1;simp at h1
  have hd:dec xs=dec xs.dropLast*256+xs.getLast hne:=by
   have:=dec_snoc xs.dropLast (xs.getLast hne) hne2
   rwa[he] at this
  rw[enc,hd]
  have e1:(dec xs.dropLast*256+xs.getLast hne) / 256=dec xs.dropLast:=by omega
  have e2:(dec xs.dropLast*256+xs.getLast hne)%256=xs.getLast hne:=by omega
  rw[e1,e2,h2,he]
theorem dec_i64 {xs:List Int}(h:xs.length≤8)(hb:Bytes xs):I64 (dec xs):=by
 cases hl:xs.length with
 |zero=>rw[List.eq_nil_of_length_eq_zero hl];exact⟨by show(-9223372036854775808:Int)≤0;decide,by show(0:Int)≤9223372036854775807;decide⟩
 |succ k=>
  have:=dec_range k xs hl hb
  have hk:k=0∨k=1∨k=2∨k=3∨k=4∨k=5∨k=6∨k=7:=by omega
  unfold I64
  rcases hk with rfl |rfl |rfl |rfl |rfl |rfl |rfl |rfl<;>simp at this<;>omega
theorem decFrom_mono (r:List Int)(hb:Bytes r): ∀a:Int,a*256^r.length≤decFrom a r∧decFrom a r< (a+1)*256^r.length:=by
 induction r with
 |nil=>intro a;simp[decFrom];omega
 |cons x r ih=>
  intro a
  have hx:=hb x (by simp)
  have h:=ih (fun y hy=>hb y (by simp[hy])) (a*256+x)
  have e:decFrom a (x::r)=decFrom (a*256+x) r:=rfl
  rw[e,List.length_cons,Int.pow_succ]
  have hp:(0:Int)<256^r.length:=Int.pow_pos (by decide)
  generalize (256:Int)^r.length=p at*
  constructor
  ·refine Int.le_trans ?_ h.1
   rw[Int.add_mul,Int.mul_assoc,Int.mul_comm 256 p]
   have:=Int.mul_nonneg hx.1 (Int.le_of_lt hp)
   omega
  ·refine Int.lt_of_lt_of_le h.2 ?_
   have e2:(a+1)* (p*256)=(a*256+256)*p:=by rw[Int.mul_comm p 256,←Int.mul_assoc,Int.add_mul];simp
   rw[e2]
   exact Int.mul_le_mul_of_nonneg_right (by omega) (Int.le_of_lt hp)
theorem width_least {xs:List Int}(h1:1≤xs.length)(h:xs.length≤8)(hb:Bytes xs):width (dec xs)=xs.length↔Least xs:=by
 match xs,h1 with
 | [b],_=>
  have:=hb b (by simp)
  rw[dec_one]
  have:width (s8 b)=1:=width_one (by unfold s8;split<;>omega)
  rw[this]
  simp[Least]
 |b::c::r,_=>
  have hbb:=hb b (by simp)
  have hcc:=hb c (by simp)
  have hr:=decFrom_mono r (fun y hy=>hb y (by simp[hy])) (s8 b*256+c)
  have hd:dec (b::c::r)=decFrom (s8 b*256+c) r:=rfl
  rw[hd]
  generalize decFrom (s8 b*256+c) r=n at*
  have hk:r.length=0∨r.length=1∨r.length=2∨r.length=3∨r.length=4∨r.length=5∨r.length=6:=by simp at h;omega
  have key:(-128≤s8 b*256+c∧s8 b*256+c≤127)↔((b=0∧c<128)∨(b=255∧128≤c)):=by unfold s8;split<;>omega
  have hs: -128≤s8 b∧s8 b≤127:=by unfold s8;split<;>omega
  simp only[Least,←key,List.length_cons]
  generalize hv:s8 b*256+c=v at*
  clear key hd hb h
  unfold width
  rcases hk with e |e |e |e |e |e |e<;>rw[e] at hr⊢ <;>simp only[Int.reducePow] at hr<;>repeat' (split)
  all_goals omega
theorem putI_dec {xs:List Int}(h1:1≤xs.length)(h:xs.length≤8)(hb:Bytes xs)(hl:Least xs):putI (dec xs)=xs:=by
 obtain⟨k,hk⟩: ∃k,xs.length=k+1:=⟨xs.length - 1,by omega⟩
 unfold putI
 rw[(width_least h1 h hb).2 hl,hk]
 exact enc_dec k xs hk hb
theorem putI_least {n:Int}(hn:I64 n):Least (putI n):=by
 have h1:=width_bd n
 have h2:=putI_length n
 refine(width_least (by omega) (by omega) (putI_bytes n)).1 ?_
 rw[dec_put hn,h2]
end Go.Proofs.YtkjkhoglkpepiaaGreatDoor.intm
namespace Go.Proofs.YtkjkhoglkpepiaaGreatDoor.intc
open Go.RowKit tlvc intm
theorem Tryz.info5:(Tryz.prog.info? 5).map (fun i=>(i.zero,i.size,i.bytes))=some (some (.int .u8 0),1,1):=by kernel_rfl
theorem own_one (w:World)(x:Int){base:Nat}(h:base≤w.heap.size):(w.alloc (.cells #[.int .u8 x] 5)).ownsRow base 5 1 (.slice (some ⟨w.heap.size,0,none⟩) 1 1) 1 (vals [x]):=
 World.ownsRow_lit w #[.int .u8 x] 1 h (by decide) rfl
theorem made_own {w w':World}{v:Value}{n:Nat}{ys:List Int}(h:w'.ownsRow w.heap.size 5 1 v n (vals ys))(hf:Fit ys)(hb:Below w.heap.size w w'):Made w ys (.returned v) w':=by
 have hn:ys.length=n:=by have:=h.1;rw[vals_length] at this;omega
 subst hn
 rcases h.2 with ⟨rfl,h0⟩ | ⟨g,cap,cur,rfl,hg,hh,hc,hm,_⟩
 ·have e:ys=[]:=List.eq_nil_of_length_eq_zero h0
  subst e
  exact⟨none,0,rfl,⟨Bys.nil_ _ _,lr_ _,Nat.zero_le _,fun _ _ h=>by cases h⟩,hb⟩
 ·exact⟨_,cap,rfl,⟨Bys.own h hf,hc,hm,fun b off h=>by cases h;exact⟨hg,rfl⟩⟩,hb⟩
def RefRound (B:Nat)(n m:Int)(v:Value)(w w':World):Prop:=
 I64 m∧∃zs,putI n=putI m++zs∧Fit zs∧w'.ownsRow B 5 1 v (zs.length+1) (vals ((m%256)::zs))∧Below B w w'
theorem refRound_len {B:Nat}{n m:Int}{v:Value}{w w':World}(h:RefRound B n m v w w'): ∃zs,putI n=putI m++zs∧Fit zs∧w'.ownsRow B 5 1 v (zs.length+1) (vals ((m%256)::zs))∧Below B w w'∧zs.length≤8:=by
 obtain⟨_,zs,h1,h2,h3,h4⟩:=h
 refine⟨zs,h1,h2,h3,h4,?_⟩
 have:=congrArg List.length h1
 rw[List.length_append,putI_length,putI_length] at this
 have:=width_bd n
 omega
theorem mod_fit (m:Int):Fit [m%256]:=by intro x hx;simp at hx;omega
theorem refRound_step {n m:Int}{v':Value}{w wr w':World}{zs:List Int}{k:Nat}{xs:List Value}(hb:I64 m)(hm: ¬(-128≤m∧m≤127))(h1:putI n=putI m++zs)(h2:Fit zs)(h4:Below w.heap.size w wr)
 (hk:k=zs.length+2) (hx:xs=vals ((m/ 256%256)::(m%256)::zs))
 (ho:w'.ownsRow w.heap.size 5 1 v' k xs) (hg:(wr.alloc (.cells #[.int .u8 (m/ 256%256)] 5)).grownBy w' (some wr.heap.size)):RefRound w.heap.size n (m/ 256) v' w w':=by
 subst hk hx
 refine⟨by unfold I64 at hb⊢;omega,(m%256)::zs,?_,(mod_fit m).app h2,ho,?_⟩
 ·rw[h1,putI_step hm hb];simp
 ·exact(h4.alloc h4.size _).grown hg (by have:=h4.size;simp;omega) fun j hj=>by cases hj;exact h4.size
theorem refRound_end {n m:Int}{v:Value}{w w':World}(hm: -128≤m∧m≤127)(h:RefRound w.heap.size n m v w w'):Made w (putI n) (.returned v) w':=by
 obtain⟨hb,zs,h1,h2,h3,h4⟩:=h
 rw[h1,putI_one hm]
 exact made_own h3 ((mod_fit m).app h2) h4
theorem refPutInt_any (n:Int)(w:World)(hn:I64 n):Calls Tryz.prog 75 #[.int .i64 n] w (Made w (putI n)):=by
 obtain⟨i0,hi,hz0,hz1,hz2⟩:=info_parts Tryz.info5
 have hb: -9223372036854775808≤n∧n≤9223372036854775807:=hn
 have hstart:RefRound w.heap.size n n (.slice (some ⟨w.heap.size,0,none⟩) 1 1) w (w.alloc (.cells #[.int .u8 (n%256)] 5)):=
  ⟨hn,[],by simp,(fun _ h=>by simp at h),own_one w _ (lr_ _),(br_ _ _).alloc (lr_ _) _⟩
 go_enter Tryz.func75,Tryz.ntmps75
 go_wp2
 go_loopw [0,3] (fun x v wr=>∃m:Int,x=.int .i64 m∧RefRound w.heap.size n m v w wr) (fun x _ _=>(intOf x).natAbs)
 case atStart=>exact⟨n,rfl,hstart⟩
 case round=>
  obtain⟨m,rfl,hr⟩:=hrel
  by_cases hm: -128≤m∧m≤127
  ·have he:=refRound_end hm hr
   clear hr hstart
   go_wp2
   go_ret
   exact he
  ·obtain⟨zs,h1,h2,h3,h4,h5⟩:=refRound_len hr
   have hbm:=hr.1
   have hbb: -9223372036854775808≤m∧m≤9223372036854775807:=hbm
   have H1:=hd_ h1
   have hB:=h4.size
   obtain⟨A,c,rfl,hc1,hc2,hA⟩:=own_shape h3
   have hbz:Bys wr A (zs.length+1) ((m%256)::zs):=Bys.own h3 ((mod_fit m).app h2)
   clear hr hstart h1 hA
   have ho1:=own_one wr (m/ 256%256) hB
   go_wp2_with (at_builtin;refine wpl_app rfl (.tmp 17) (.tmp 18) 34 rfl w.heap.size 5 i0 (.int .u8 0) Tryz.underlying34 hi hz0 hz1 hz2 rfl (.slice (some ⟨wr.heap.size,0,none⟩) 1 1) 1 (vals [m/ 256%256]) rfl ho1 A (zs.length+1) c ((m%256)::zs) rfl (hbz.alloc _) (by omega) (by simp;omega) ?_;intro v' w2 ho2 hg2)
   all_goals
    go_roundw
    case rel=>exact⟨m/ 256,rfl,refRound_step hbm hm H1.out h2 h4 (by omega) rfl ho2 hg2⟩
    case measure=>simp[intOf];omega
end Go.Proofs.YtkjkhoglkpepiaaGreatDoor.intc
namespace Go.Proofs.YtkjkhoglkpepiaaGreatDoor.intc
open Go.RowKit tlvc intm
theorem wid_test {n:Int}(hb:I64 n){k:Nat}(h1:1≤k)(h2:k≤8)(h:k≤width n):(n/ 2^ (8*k - 1) !=n/ 9223372036854775808)=decide (k<width n):=by
 have key:(n/ 2^ (8*k - 1)=n/ 9223372036854775808)↔ ¬k<width n:=by
  by_cases h8:k=8
  ·have:=width_bd n
   subst h8
   exact⟨fun _=>by omega,fun _=>rfl⟩
  unfold I64 at hb
  have hk:k=1∨k=2∨k=3∨k=4∨k=5∨k=6∨k=7:=by omega
  clear h
  unfold width
  rcases hk with rfl |rfl |rfl |rfl |rfl |rfl |rfl<;>simp only[Nat.reduceMul,Nat.reduceSub,Int.reducePow]<;>repeat' split
  all_goals omega
 by_cases h3:k<width n
 ·simp only[h3,decide_true,bne_iff_ne,ne_eq]
  rw[key];exact fun h=>h h3
 ·simp only[h3,decide_false]
  rw[bne_eq_false_iff_eq,key];exact h3
def laid (n:Int)(i:Nat):List Int:=(putI n).take i++List.replicate (width n - i) 0
theorem laid_zero (n:Int):vals (laid n 0)=(List.replicate (width n) (Value.int .u8 0)):=by simp[laid,vals]
theorem laid_all (n:Int)(i:Nat)(h:i=width n):laid n i=putI n:=by
 unfold laid
 rw[List.take_of_length_le (by rw[putI_length];omega)]
 simp[h]
theorem laid_fit (n:Int)(i:Nat):Fit (laid n i):=by
 intro x hx
 rcases List.mem_append.1 hx with h |h
 ·exact putI_bytes n x (List.mem_of_mem_take h)
 ·have:=List.eq_of_mem_replicate h;omega
theorem laid_step {n:Int}{i:Nat}(h:i<width n){z:Int}(hz:z=n/ 2^ (8* (width n - 1 - i))%256):(laid n i).set i z=laid n (i+1):=by
 have e:z=(putI n).getD i 0:=by
  rw[hz]
  unfold putI
  rw[enc_getD _ _ _ h,Int.pow_mul]
  rfl
 have hl:((putI n).take i).length=i:=by rw[List.length_take,putI_length];omega
 unfold laid
 rw[List.set_append_right _ _ (by omega),hl,Nat.sub_self]
 obtain⟨r,hr⟩: ∃r,width n - i=r+1:=⟨width n - i - 1,by omega⟩
 have hr2:width n - (i+1)=r:=by omega
 rw[hr,hr2,List.replicate_succ,qb_,List.take_succ_eq_append_getElem (by rw[putI_length];exact h),e]
 have hg:(putI n).getD i 0=(putI n)[i]'(by rw[putI_length];exact h):=by simp[List.getD_eq_getElem?_getD,List.getElem?_eq_getElem (show i< (putI n).length by rw[putI_length];exact h)]
 rw[hg,List.append_assoc]
 rfl
theorem laid_next {n:Int}{i:Nat}{w wr:World}{A:Nat}{c:Nat}(h:i<width n)(hA:w.heap.size≤A)(ho:wr.ownsRow w.heap.size 5 1 (.slice (some ⟨A,0,none⟩) (width n) c) (width n) (vals (laid n i)))(hb:Below w.heap.size w wr):
 (wr.setCell ⟨A,i,none⟩ (.int .u8 (n/ 2^ (8* (width n - 1 - i))%256))).ownsRow w.heap.size 5 1 (.slice (some ⟨A,0,none⟩) (width n) c) (width n) (vals (laid n (i+1)))∧Below w.heap.size w (wr.setCell ⟨A,i,none⟩ (.int .u8 (n/ 2^ (8* (width n - 1 - i))%256))):=by
 obtain⟨h1,h2⟩:=ho.stored i (.int .u8 (n/ 2^ (8* (width n - 1 - i))%256))
 refine⟨?_,hb.setCell hA _⟩
 have:vals (laid n (i+1))=(vals (laid n i)).set i (.int .u8 (n/ 2^ (8* (width n - 1 - i))%256)):=by rw[←laid_step h rfl];simp[vals,List.map_set]
 rw[this];exact h1
theorem putInt_any (n:Int)(w:World)(hn:I64 n):Calls Tryz.prog 25 #[.int .i64 n] w (Made w (putI n)):=by
 obtain⟨i0,hi,hz0,hz1,hz2⟩:=info_parts Tryz.info5
 have hb: -9223372036854775808≤n∧n≤9223372036854775807:=hn
 have hwb:=width_bd n
 go_enter Tryz.func25,Tryz.ntmps25
 go_wp2
 go_loop [3] (fun x=>∃k:Nat,x=.int .i64 k∧1≤k∧k≤width n) (fun x=>9 - (intOf x).toNat)
 case atStart=>exact⟨1,rfl,by omega,by omega⟩
 case round=>
  obtain⟨k,rfl,hk1,hk2⟩:=hrel
  have ht:=wid_test hn hk1 (by omega) hk2
  by_cases hlt:k<width n
  ·have ht':(n/ 2^ (8*k - 1) !=n/ 9223372036854775808)=true:=by rw[ht];simp[hlt]
   clear ht
   go_wp2
   go_round
   case rel=>exact⟨k+1,by go_num,by omega,by omega⟩
   case measure=>simp[intOf];omega
  ·have ht':(n/ 2^ (8*k - 1) !=n/ 9223372036854775808)=false:=by rw[ht];simp[hlt]
   obtain rfl:width n=k:=by omega
   clear ht
   go_wp2_with (at_make;refine wpList_make_full _ rfl _ _ 34 rfl w.heap.size 5 i0 (.int .u8 0) 1 Tryz.underlying34 hi hz0 hz1 _ _ _ _ (width n) rfl rfl rfl rfl (by rw[hz2];omega) (by unfold maxLen;omega) (lr_ _) ?_;intro w1 hown1 hg1)
   have hrow:w1.ownsRow w.heap.size 5 1 (.slice (some ⟨w.heap.size,0,none⟩) (width n) (width n)) (width n) (vals (laid n 0)):=by
    rw[laid_zero]
    rw[show(Value.int IntKind.u8 0).cells=#[.int .u8 0] from rfl,Nat.mul_one,toList_madeCells_one] at hown1
    exact hown1
   have hbel:Below w.heap.size w w1:=(br_ _ _).grown hg1 (lr_ _) (fun _ h=>by cases h)
   clear hown1 hg1
   go_loopw [20] (fun x wr=>∃i:Nat,x=.int .i64 i∧i≤width n∧wr.ownsRow w.heap.size 5 1 (.slice (some ⟨w.heap.size,0,none⟩) (width n) (width n)) (width n) (vals (laid n i))∧Below w.heap.size w wr) (fun x _=>9 - (intOf x).toNat)
   case atStart=>exact⟨0,rfl,by omega,hrow,hbel⟩
   case round=>
    obtain⟨i,rfl,hi2,ho,hbl⟩:=hrel
    by_cases hlt2:i<width n
    ·have hfro:=ho.frozenAt i
     have hcell:=bys_at (Bys.own ho (laid_fit n i)) i hlt2
     have hnext:=laid_next hlt2 (lr_ _) ho hbl
     have HN:=hd_ hnext
     clear hnext ho hbl hrow hbel
     go_wp2
     go_roundw
     case rel=>exact⟨i+1,by go_num,by omega,HN.out.1,HN.out.2⟩
     case measure=>simp[intOf];omega
    ·have:=made_own ho (laid_fit n i) hbl
     rw[laid_all n i (by omega)] at this
     go_wp2
     go_ret
     exact this
end Go.Proofs.YtkjkhoglkpepiaaGreatDoor.intc
namespace Go.Proofs.YtkjkhoglkpepiaaGreatDoor.intc
open Go.RowKit tlvc intm
theorem or_i64 (i:Nat)(hi:i≤63)(x y:Int)(hx:I64 x)(hm:x%2^i=0)(hy0:0≤y)(hy:y<2^i):bits .or .i64 x y=x+y:=by
 unfold I64 at hx
 obtain⟨b,rfl⟩:=Int.eq_ofNat_of_zero_le hy0
 have hb':b<2^i:=by exact_mod_cast hy
 have h63:(2:Nat)^i≤2^63:=Nat.pow_le_pow_right (by decide) hi
 have hb:b<18446744073709551616:=by omega
 obtain⟨a,ha⟩: ∃a:Nat,x%18446744073709551616=a:=Int.eq_ofNat_of_zero_le (by omega)
 have ha2:a<18446744073709551616:=by omega
 have hdv:(18446744073709551616:Int)%2^i=0:=by
  obtain⟨k,hk⟩: ∃k,64=i+k:=⟨64 - i,by omega⟩
  have e:(18446744073709551616:Int)=2^i*2^k:=by rw[←Int.pow_add,←hk];rfl
  rw[e];exact Int.mul_emod_right _ _
 have hd:a%2^i=0:=by
  have h1:((a:Int))%2^i=0:=by
   rw[←ha,Int.emod_def x,Int.sub_emod,hm,Int.mul_emod,hdv];simp
  exact_mod_cast h1
 have h1:(BitVec.ofInt 64 x).toNat=a:=by
  rw[BitVec.toNat_ofInt]
  show(x%18446744073709551616).toNat=a
  rw[ha];rfl
 have h2:(BitVec.ofInt 64 (b:Int)).toNat=b:=by
  rw[BitVec.ofInt_natCast,BitVec.toNat_ofNat];exact Nat.mod_eq_of_lt (by omega)
 have hq:a=2^i* (a/ 2^i):=by have:=Nat.div_add_mod a (2^i);omega
 have hor:a ||| b=a+b:=by
  rw[hq,←Nat.two_pow_add_eq_or_of_lt hb' (a/ 2^i)]
 have hlt:a ||| b<2^64:=Nat.or_lt_two_pow (by omega) (by omega)
 show IntKind.i64.wrap ((BitVec.ofInt 64 x ||| BitVec.ofInt 64 (b:Int)).toNat:Int)=_
 rw[BitVec.toNat_or,h1,h2,IntKind.wrap_i64]
 rw[hor] at hlt⊢
 rw[show(2:Nat)^64=18446744073709551616 from rfl] at hlt
 have hup:x+2^i≤9223372036854775808:=by
  obtain⟨k,hk⟩: ∃k,63=i+k:=⟨63 - i,by omega⟩
  have e:(9223372036854775808:Int)=2^i*2^k:=by rw[←Int.pow_add,←hk];rfl
  have ex:x=2^i* (x/ 2^i):=by have:=Int.mul_ediv_add_emod x (2^i);omega
  have hp:(0:Int)<2^i:=Int.pow_pos (by decide)
  have hlt:x/ 2^i<2^k:=by
   refine Int.lt_of_mul_lt_mul_left (a:=2^i) ?_ (Int.le_of_lt hp)
   rw[←e,←ex];omega
  have:=Int.mul_le_mul_of_nonneg_left (show x/ 2^i+1≤2^k by omega) (Int.le_of_lt hp)
  rw[Int.mul_add,←ex,←e] at this
  omega
 omega
theorem bys_fits {w:World}{A:Option Addr}{n:Nat}{xs:List Int}(h:Bys w A n xs):Bytes xs:=fun x hx=>h.fit x hx
theorem dec_take_succ {ys:List Int}{k:Nat}(hk:k<ys.length)(h1:1≤k):dec (ys.take (k+1))=dec (ys.take k)*256+ys.getD k 0:=by
 rw[List.take_succ_eq_append_getElem hk,dec_snoc]
 ·simp[List.getD_eq_getElem?_getD,List.getElem?_eq_getElem hk]
 ·intro e
  have:=congrArg List.length e
  rw[List.length_take,List.length_nil] at this
  omega
theorem dec_take_one {ys:List Int}(h:0<ys.length):dec (ys.take 1)=s8 (ys.getD 0 0):=by
 match ys,h with
 |y::r,_=>rfl
theorem dec_room {ys:List Int}{k:Nat}(hb:Bytes ys)(hk:k≤7): -36028797018963968≤dec (ys.take k)∧dec (ys.take k)≤36028797018963967:=by
 have hb':Bytes (ys.take k):=fun x hx=>hb x (List.mem_of_mem_take hx)
 cases hl:(ys.take k).length with
 |zero=>rw[List.eq_nil_of_length_eq_zero hl];exact⟨by show(-36028797018963968:Int)≤0;decide,by show(0:Int)≤36028797018963967;decide⟩
 |succ j=>
  have:=dec_range j _ hl hb'
  have hj:j≤6:=by rw[List.length_take] at hl;omega
  have hk:j=0∨j=1∨j=2∨j=3∨j=4∨j=5∨j=6:=by omega
  rcases hk with rfl |rfl |rfl |rfl |rfl |rfl |rfl<;>simp at this<;>omega
theorem s8_wrap {x:Int}(h:0≤x∧x≤255):wrap64 (IntKind.i8.wrap x)=s8 x:=by
 have e:IntKind.i8.wrap x=s8 x:=by
  unfold s8
  simp[IntKind.wrap,IntKind.bits,IntKind.signed]
  split<;>split<;>omega
 rw[e]
 unfold wrap64 s8
 split<;>omega
theorem number_few (A:Option Addr)(n c:Nat)(xs:List Int)(w:World)(hb:Bys w A n xs)(hc:n≤c)(hm:c≤maxLen)(h8:n≤8):
 Calls Tryz.prog 88 #[.slice A n c] w fun e w'=>e=.returned (.int .i64 (dec xs))∧w=w':=by
 unfold maxLen at hm
 have hfit:=bys_fits hb
 have hlen:=hb.len
 have hcell:=hb.2.2
 go_enter Tryz.func88,Tryz.ntmps88
 go_wp2
 have HL:=hd_ hlen
 clear hlen
 go_loop [3,12] (fun x y=>∃k:Nat,y=.int .i64 k∧k≤n∧x=.int .i64 (dec (xs.take k))) (fun _ y=>9 - (intOf y).toNat)
 case atStart=>exact⟨0,rfl,Nat.zero_le _,rfl⟩
 case round=>
  obtain⟨k,rfl,hk,rfl⟩:=hrel
  by_cases hlt:k<n
  ·obtain⟨b,off,hA,_,hcl⟩:=hcell (by omega)
   subst hA
   have hc1:=hcl k hlt
   obtain⟨x,hx⟩:=nm_ (xs.getD k 0)
   have hxb:=hb.fit.getD k
   rw[hx] at hc1 hxb
   by_cases h0:k=0
   ·subst h0
    have h1:=dec_take_one (ys:=xs) (by rw[HL.out];exact hlt)
    rw[hx] at h1
    have H1:=hd_ h1
    rw[Nat.add_zero] at hc1
    clear h1 hx hcl hcell
    go_wp2
    go_round
    case rel=>exact⟨1,by go_num,by omega,by rw[H1.out,s8_wrap hxb]⟩
    case measure=>simp[intOf]
   ·have h1:=dec_take_succ (ys:=xs) (k:=k) (by rw[HL.out];exact hlt) (by omega)
    have h2:=dec_room (ys:=xs) (k:=k) hfit (by omega)
    rw[hx] at h1
    have h3:=or_i64 8 (by decide) (dec (xs.take k)*256) x (by unfold I64;omega) (by simp) (by omega) (by omega)
    have H1:=hd_ h1
    clear h1 hx hcl hcell
    go_wp2
    go_round
    case rel=>exact⟨k+1,by go_num,by omega,by rw[H1.out]⟩
    case measure=>simp[intOf];omega
  ·have:dec (xs.take k)=dec xs:=by rw[List.take_of_length_le (by rw[HL.out];omega)]
   rw[this]
   clear this
   go_wp2
   go_ret
   exact⟨rfl,rfl⟩
theorem number_many (A:Option Addr)(n c:Nat)(xs:List Int)(w:World)(hb:Bys w A n xs)(hc:n≤c)(hm:c≤maxLen)(h8:8<n):
 Calls Tryz.prog 88 #[.slice A n c] w fun e w'=>e=.returned (.int .i64 (dec (xs.take 8)))∧w=w':=by
 unfold maxLen at hm
 replace hb:=hb.upto (k:=8) (by omega)
 obtain⟨ys,hys⟩:=nm_ (xs.take 8)
 rw[hys] at hb⊢
 clear hys
 have hfit:=bys_fits hb
 have hlen:=hb.len
 have hcell:=hb.2.2
 have hmax:max (8:Int) 0=8:=by decide
 go_enter Tryz.func88,Tryz.ntmps88
 go_wp2
 have HL:=hd_ hlen
 clear hlen
 go_loop [3,12] (fun x y=>∃k:Nat,y=.int .i64 k∧k≤8∧x=.int .i64 (dec (ys.take k))) (fun _ y=>9 - (intOf y).toNat)
 case atStart=>exact⟨0,rfl,Nat.zero_le _,rfl⟩
 case round=>
  obtain⟨k,rfl,hk,rfl⟩:=hrel
  by_cases hlt:k<8
  ·obtain⟨b,off,hA,_,hcl⟩:=hcell (by omega)
   subst hA
   have hc1:=hcl k hlt
   obtain⟨x,hx⟩:=nm_ (ys.getD k 0)
   have hxb:=hb.fit.getD k
   rw[hx] at hc1 hxb
   by_cases h0:k=0
   ·subst h0
    have h1:=dec_take_one (ys:=ys) (by rw[HL.out];exact hlt)
    rw[hx] at h1
    have H1:=hd_ h1
    rw[Nat.add_zero] at hc1
    clear h1 hx hcl hcell
    go_wp2
    go_round
    case rel=>exact⟨1,by go_num,by omega,by rw[H1.out,s8_wrap hxb]⟩
    case measure=>simp[intOf]
   ·have h1:=dec_take_succ (ys:=ys) (k:=k) (by rw[HL.out];exact hlt) (by omega)
    have h2:=dec_room (ys:=ys) (k:=k) hfit (by omega)
    rw[hx] at h1
    have h3:=or_i64 8 (by decide) (dec (ys.take k)*256) x (by unfold I64;omega) (by simp) (by omega) (by omega)
    have H1:=hd_ h1
    clear h1 hx hcl hcell
    go_wp2
    go_round
    case rel=>exact⟨k+1,by go_num,by omega,by rw[H1.out]⟩
    case measure=>simp[intOf];omega
  ·have:dec (ys.take k)=dec ys:=by rw[List.take_of_length_le (by rw[HL.out];omega)]
   rw[this]
   clear this
   go_wp2
   go_ret
   exact⟨rfl,rfl⟩
theorem number_any (A:Option Addr)(n c:Nat)(xs:List Int)(w:World)(hb:Bys w A n xs)(hc:n≤c)(hm:c≤maxLen):
 Calls Tryz.prog 88 #[.slice A n c] w fun e w'=>e=.returned (.int .i64 (dec (xs.take 8)))∧w=w':=by
 by_cases h:n≤8
 ·have:=number_few A n c xs w hb hc hm h
  rw[List.take_of_length_le (by rw[hb.len];exact h)]
  exact this
 ·exact number_many A n c xs w hb hc hm (by omega)
end Go.Proofs.YtkjkhoglkpepiaaGreatDoor.intc
