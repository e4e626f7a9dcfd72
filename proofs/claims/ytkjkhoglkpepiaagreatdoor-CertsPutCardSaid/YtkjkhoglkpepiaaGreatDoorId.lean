/- The live question of warderlaw02; Same of the document. Plai -/
import Derived.Test.YtkjkhoglkpepiaaGreatDoorIc
set_option maxRecDepth 100000
set_option maxHeartbeats 2000000
set_option linter.unusedVariables false
set_option linter.unusedSimpArgs false
namespace Go.Proofs.YtkjkhoglkpepiaaGreatDoor.intc
open Go.RowKit tlvc intm
theorem drewN_add (w:World)(q r:Nat):(w.drewN q).drewN r=w.drewN (q+r):=by
 unfold World.drewN;simp[Nat.add_assoc]
theorem same_step {xs ys:List Int}{k:Nat}(h:xs.take k=ys.take k)(hx:k<xs.length)(hy:k<ys.length)(he:xs.getD k 0=ys.getD k 0):xs.take (k+1)=ys.take (k+1):=by
 rw[List.take_succ_eq_append_getElem hx,List.take_succ_eq_append_getElem hy,h]
 simp only[List.getD_eq_getElem?_getD,List.getElem?_eq_getElem hx,List.getElem?_eq_getElem hy,Option.getD_some] at he
 rw[he]
end Go.Proofs.YtkjkhoglkpepiaaGreatDoor.intc
namespace Go.Proofs.YtkjkhoglkpepiaaGreatDoor.intm
structure Read (xs:List Int) (at_:Nat) (ns:List Int):Prop where
 le:at_≤xs.length
 told:body ns=xs.take at_
 arcs: ∀n∈ns,Arc n
 few:ns.length≤15
theorem read_zero (xs:List Int):Read xs 0 []:=⟨Nat.zero_le _,rfl,fun _ h=>by simp at h,by simp⟩
theorem read_rest {xs:List Int}{a:Nat}{ns l:List Int}(h:Read xs a ns)(hl:objB l=true)(he:encO l=xs): ∃rs,nums l=ns++rs∧body rs=xs.drop a∧∀r∈rs,Arc r:=by
 have ha:=nums_arc hl
 have hx:body (nums l)=body ns++xs.drop a:=by rw[h.told,List.take_append_drop];exact he
 obtain⟨rs,h1,h2⟩:=body_pre ns (nums l) _ h.arcs ha hx
 exact⟨rs,h1,h2,fun r hr=>ha r (by rw[h1];simp[hr])⟩
theorem read_next {xs:List Int}{a:Nat}{ns l:List Int}(h:Read xs a ns)(hlt:a<xs.length)(hl:objB l=true)(he:encO l=xs): ∃m rs,nums l=ns++m::rs∧xs.drop a=digs m++body rs∧Arc m:=by
 obtain⟨rs,h1,h2,h3⟩:=read_rest h hl he
 cases rs with
 |nil=>
  exfalso
  have:=congrArg List.length h2
  rw[List.length_drop] at this
  simp[body] at this;omega
 |cons m rs=>exact⟨m,rs,h1,by rw[←h2];rfl,h3 m (by simp)⟩
variable {xs ns:List Int} {a:Nat}
theorem none_head (h:Read xs a ns)(hlt:a<xs.length)(h128:xs.getD a 0=128):oidF xs=([],22):=by
 refine oidF_none fun l hl he=>?_
 obtain⟨m,rs,h1,h2,h3⟩:=read_next h hlt hl he
 unfold Arc at h3
 have hh:(xs.drop a).head?=some 128:=by
  rw[List.head?_drop,List.getElem?_eq_getElem hlt,←h128]
  simp[List.getD_eq_getElem?_getD,List.getElem?_eq_getElem hlt]
 rw[h2] at hh
 unfold digs at hh
 rw[List.append_assoc] at hh
 by_cases h0:hi (m/ 128)=[]
 ·rw[h0] at hh;simp at hh;omega
 ·rw[head_app h0] at hh
  exact hi_head (by omega) (by omega) hh
theorem none_great {j:Nat}(h:Read xs a ns)(hlt:a<xs.length)(hp: ∀x∈(xs.drop a).take j,128≤x)(hv:268435455<val ((xs.drop a).take j)):oidF xs=([],22):=by
 refine oidF_none fun l hl he=>?_
 obtain⟨m,rs,h1,h2,h3⟩:=read_next h hlt hl he
 unfold Arc at h3
 have e:digs m++body rs=(xs.drop a).take j++(xs.drop a).drop j:=by rw[List.take_append_drop,h2]
 obtain⟨us,hu⟩:=hi_cut e hp
 have h5:=val_hi (n:=m/ 128) (by omega) (by omega)
 have h6:=val_mono ((xs.drop a).take j) us
 rw[←hu,h5] at h6
 omega
theorem none_end (h:Read xs a ns)(hlt:a<xs.length)(hp: ∀x∈xs.drop a,128≤x):oidF xs=([],22):=by
 refine oidF_none fun l hl he=>?_
 obtain⟨m,rs,h1,h2,h3⟩:=read_next h hlt hl he
 unfold Arc at h3
 have:=hp (m%128) (by rw[h2];simp[digs])
 omega
theorem none_last {j:Nat}{d:Int}(h:Read xs a ns)(hlt:a<xs.length)(hp: ∀x∈(xs.drop a).take j,128≤x)(hd:d<128)(ht:(xs.drop a).take (j+1)=(xs.drop a).take j++[d])
 (hv:268435455<val ((xs.drop a).take (j+1))):oidF xs=([],22):=by
 refine oidF_none fun l hl he=>?_
 obtain⟨m,rs,h1,h2,h3⟩:=read_next h hlt hl he
 have e:digs m++body rs=(xs.drop a).take j++d::(xs.drop a).drop (j+1):=by
  have:=List.take_append_drop (j+1) (xs.drop a)
  rw[ht,List.append_assoc] at this
  rw[←h2];exact this.symm
 obtain⟨h4,_⟩:=digs_cut e hp hd
 rw[ht,←h4,val_digs h3] at hv
 unfold Arc at h3
 omega
theorem none_many (h:Read xs a ns)(hlt:a<xs.length)(hn:ns.length=15):oidF xs=([],22):=by
 refine oidF_none fun l hl he=>?_
 obtain⟨m,rs,h1,h2,h3⟩:=read_next h hlt hl he
 have h4:=(objB_iff l).1 hl
 have h5:=nums_length l h4.1
 rw[h1] at h5
 simp at h5
 omega
theorem none_empty (h:xs.length=0):oidF xs=([],22):=by
 refine oidF_none fun l hl he=>?_
 rw[List.eq_nil_of_length_eq_zero h] at he
 unfold encO nums at he
 rw[body_cons] at he
 simp[digs] at he
theorem read_step {j:Nat}{d:Int}(h:Read xs a ns)(hf: ∀x∈xs,0≤x∧x≤255)(hj:a+j<xs.length)(hp: ∀x∈(xs.drop a).take j,128≤x)(hd:d<128)(ht:(xs.drop a).take (j+1)=(xs.drop a).take j++[d])
 (hh:xs.getD a 0≠128) (hv:val ((xs.drop a).take (j+1))≤268435455) (hn:ns.length<15):Read xs (a+j+1) (ns++[val ((xs.drop a).take (j+1))]):=by
 have hfd: ∀x∈xs.drop a,0≤x∧x≤255:=fun x hx=>hf x (List.mem_of_mem_drop hx)
 have hd0:0≤d:=(hfd d (List.mem_of_mem_take (show d∈(xs.drop a).take (j+1) by rw[ht];simp))).1
 have hvn:=val_nonneg ((xs.drop a).take j)
 have hv':=hv
 rw[ht,val_snoc] at hv'
 have hhead:((xs.drop a).take j).head?≠some 128:=by
  cases j with
  |zero=>simp
  |succ j=>
   rw[List.head?_take,if_neg (by omega),List.head?_drop,List.getElem?_eq_getElem (by omega)]
   intro e
   apply hh
   simp only[Option.some.injEq] at e
   simp[List.getD_eq_getElem?_getD,List.getElem?_eq_getElem (show a<xs.length by omega),e]
 have hps:=(hi_val _ ((xs.drop a).take j) rfl (fun x hx=>⟨hp x hx,(hfd x (List.mem_of_mem_take hx)).2⟩) hhead (by omega)).1
 have hdig:digs (val ((xs.drop a).take (j+1)))=(xs.drop a).take (j+1):=by
  rw[ht,val_snoc]
  unfold digs
  have e1:(val ((xs.drop a).take j)*128+d%128) / 128=val ((xs.drop a).take j):=by omega
  have e2:(val ((xs.drop a).take j)*128+d%128)%128=d:=by omega
  rw[e1,e2,←hps]
 refine⟨by omega,?_,?_,by simp;omega⟩
 ·rw[body_append,h.told]
  have:body [val ((xs.drop a).take (j+1))]=(xs.drop a).take (j+1):=by rw[body_cons,body_nil,List.append_nil,hdig]
  have e:xs.take (a+ (j+1))=xs.take a++(xs.drop a).take (j+1):=by rw[List.take_add]
  rw[this,Nat.add_assoc,e]
 ·intro n hn
  rcases List.mem_append.1 hn with h' |h'
  ·exact h.arcs n h'
  ·simp at h';rw[h'];exact⟨val_nonneg _,hv⟩
theorem unnum_snoc {ns:List Int}{n:Int}:unnum (ns++[n])=if ns=[] then arcs2 n else unnum ns++[n]:=by
 cases ns with
 |nil=>simp[unnum]
 |cons m r=>simp[unnum]
theorem unnum_length {ns:List Int}:(unnum ns).length=if ns=[] then 0 else ns.length+1:=by
 cases ns with
 |nil=>rfl
 |cons m r=>
  have e:(arcs2 m).length=2:=by unfold arcs2;split<;>rfl
  have e2:unnum (m::r)=arcs2 m++r:=rfl
  rw[e2,List.length_append,e,if_neg (by simp),List.length_cons]
  omega
theorem read_done (h:Read xs xs.length ns)(hne:ns≠[]):oidF xs=(unnum ns,0):=by
 obtain⟨h1,h2⟩:=obj_unnum hne h.few h.arcs
 have e:encO (unnum ns)=xs:=by
  unfold encO
  rw[h2,h.told,List.take_of_length_le (lr_ _)]
 rw[←e]
 exact oidF_enc h1
theorem unnum_i64 {ns:List Int}(h: ∀n∈ns,Arc n): ∀a∈unnum ns,I64 a:=by
 cases ns with
 |nil=>intro a ha;simp[unnum] at ha
 |cons n r=>
  have hn:=h n (by simp)
  intro a ha
  have ha:a∈arcs2 n++r:=ha
  rcases List.mem_append.1 ha with h' |h'
  ·refine arcs2_i64 ?_ a h'
   unfold Arc at hn;unfold I64;omega
  ·have:=h a (by simp[h'])
   unfold Arc at this;unfold I64;omega
end Go.Proofs.YtkjkhoglkpepiaaGreatDoor.intm
namespace Go.Proofs.YtkjkhoglkpepiaaGreatDoor.intc
open Go.RowKit tlvc intm
structure OutRow (B:Nat) (w:World) (ns:List Int) (v:Value) (wr:World):Prop where
 own:wr.ownsRow B 3 1 v (unnum ns).length (ivals (unnum ns))
 nil_:ns=[]→v=.slice none 0 0
 below:Below B w wr
theorem getD_drop {xs:List Int}{a j:Nat}:(xs.drop a).getD j 0=xs.getD (a+j) 0:=by
 simp[List.getD_eq_getElem?_getD,List.getElem?_drop]
theorem take_drop_next {xs:List Int}{a j:Nat}{x:Int}(h:a+j<xs.length)(hx:xs.getD (a+j) 0=x):(xs.drop a).take (j+1)=(xs.drop a).take j++[x]:=
 take_next (by rw[List.length_drop];omega) (by rw[getD_drop];exact hx)
theorem all_next {xs:List Int}{a j:Nat}{x:Int}(h: ∀z∈(xs.drop a).take j,128≤z)(ht:(xs.drop a).take (j+1)=(xs.drop a).take j++[x])(hx:128≤x): ∀z∈(xs.drop a).take (j+1),128≤z:=by
 intro z hz
 rw[ht] at hz
 rcases List.mem_append.1 hz with h' |h'
 ·exact h z h'
 ·simp at h';omega
theorem out_first {B:Nat}{w wr w':World}{ps:List Int}{v':Value}{V:Int}{o:Obj}(hB:B≤wr.heap.size)(h4:Below B w wr)(hps:arcs2 V=ps)
 {n:Nat} (hn:n=ps.length) (ho:w'.ownsRow B 3 1 v' n (ivals ps)) (hg:(wr.alloc o).grownBy w' none):OutRow B w ([]++[V]) v' w':=by
 subst hn
 have e:unnum ([]++[V])=ps:=by rw[unnum_snoc,if_pos rfl,hps]
 refine⟨?_,fun e=>by simp at e,(h4.alloc hB o).grown hg (by simp;omega) fun j hj=>by cases hj⟩
 rw[e];exact ho
theorem out_next {B:Nat}{w wr w':World}{ns:List Int}{v v':Value}{V:Int}{o:Obj}(hB:B≤wr.heap.size)(h:OutRow B w ns v wr)(hne:ns≠[])
 {n:Nat} (hn:n=(unnum ns).length+1) (ho:w'.ownsRow B 3 1 v' n (ivals (unnum ns)++ivals [V])) (hg:(wr.alloc o).grownBy w' v.ownBlock):OutRow B w (ns++[V]) v' w':=by
 subst hn
 have e:unnum (ns++[V])=unnum ns++[V]:=by rw[unnum_snoc,if_neg hne]
 refine⟨?_,fun e=>by simp at e,(h.below.alloc hB o).grown hg (by simp;omega) fun j hj=>(h.own.lt j hj).1⟩
 rw[e,ivals_append,List.length_append];exact ho
theorem out_done {w wr:World}{xs ns:List Int}{v:Value}(h:OutRow w.heap.size w ns v wr)(hr:intm.Read xs xs.length ns)(hne:ns≠[]):IOMade w (oidF xs).1 (oidF xs).2 (.returned (.tuple #[v,.int .i64 0])) wr:=by
 rw[read_done hr hne]
 obtain⟨A,c,rfl,hh⟩:=iHere_own h.own (unnum_i64 hr.arcs)
 exact⟨A,c,rfl,hh,h.below⟩
theorem io_bad {w wr:World}{xs:List Int}(h:oidF xs=([],22))(hb:Below w.heap.size w wr):IOMade w (oidF xs).1 (oidF xs).2 (.returned (.tuple #[.slice none 0 0,.int .i64 22])) wr:=by
 rw[h];exact ioMade_none _ _ _ hb
theorem and7 {y:Int}(h0:0≤y)(h:y≤255):bits .and .u8 y 127=y%128:=
 bits_mask .u8 8 (by decide) (fun n h₀ h₁=>by rw[IntKind.wrap_u8];omega) 7 (by decide) y h0 (by omega)
theorem refOID_any (A:Option Addr)(n c:Nat)(xs:List Int)(w:World)(hb:Bys w A n xs)(hc:n≤c)(hm:c≤maxLen):
 Calls Tryz.prog 153 #[.slice A n c] w (IOMade w (oidF xs).1 (oidF xs).2):=by
 unfold maxLen at hm
 obtain⟨i0,hi0,hz0,hz1,hz2⟩:=info_parts Tryz.info3
 have hstart:OutRow w.heap.size w [] (.slice none 0 0) w:=⟨World.ownsRow_nil _ _ _ _,fun _=>rfl,br_ _ _⟩
 have hread:=read_zero xs
 have hlen:=hb.len
 have HL:=hd_ hlen
 have hfit:=hd_ (bys_fits hb)
 clear hlen
 go_enter Tryz.func153,Tryz.ntmps153
 go_wp2
 go_loopw [4,5] (fun v y wr=>∃(a:Nat) (ns:List Int),y=.int .i64 a∧a≤n∧intm.Read xs a ns∧OutRow w.heap.size w ns v wr) (fun _ y _=>n - (intOf y).toNat)
 case atStart=>exact⟨0,[],rfl,by omega,hread,hstart⟩
 case round=>
  obtain⟨a,ns,rfl,ha,hrd,hor⟩:=hrel
  obtain⟨wo,rfl⟩: ∃wo:World,wo=wr:=⟨_,rfl⟩
  clear hread hstart
  by_cases hlt:a<n
  ·have hB:=hor.below.size
   obtain⟨b,off,hA,_,hcl⟩:=(hb.below hor.below).2.2 (by omega)
   subst hA
   have HC:=hd_ hcl
   have hca:=hcl a hlt
   by_cases h128:xs.getD a 0=128
   ·have hbad:=io_bad (none_head hrd (by rw[HL.out];exact hlt) h128) hor.below
    rw[h128] at hca
    clear hcl h128 hrd hor
    go_wp2
    go_ret2
    exact hbad
   ·have H128:=hd_ h128
    obtain⟨x0,hx0⟩:=nm_ (xs.getD a 0)
    rw[hx0] at hca h128
    have hne:(x0==128)=false:=by simpa using h128
    clear hcl h128 hx0
    go_wp2
    go_loop [5,6] (fun y x=>∃j:Nat,y=.int .i64 ((a+j:Nat):Int)∧a+j≤n∧(∀z∈(xs.drop a).take j,128≤z)∧x=.int .i64 (val ((xs.drop a).take j))∧val ((xs.drop a).take j)≤268435455) (fun y _=>n - (intOf y).toNat)
    case atStart=>exact⟨0,rfl,by omega,fun z hz=>by simp at hz,rfl,by show(0:Int)≤268435455;decide⟩
    case round=>
     obtain⟨j,rfl,hj,hall,rfl,hV⟩:=hrel
     have hV0:=val_nonneg ((xs.drop a).take j)
     obtain⟨V,hVV⟩:=nm_ (val ((xs.drop a).take j))
     rw[hVV] at hV hV0⊢
     by_cases hlt2:a+j<n
     ·have hcj:=HC.out (a+j) hlt2
      have hxb:=hb.fit.getD (a+j)
      obtain⟨x,hx⟩:=nm_ (xs.getD (a+j) 0)
      have ht:=take_drop_next (by rw[HL.out];exact hlt2) hx
      rw[hx] at hcj hxb
      have hvn:val ((xs.drop a).take (j+1))=V*128+x%128:=by rw[ht,val_snoc,hVV]
      have HT:=hd_ ht
      have HVN:=hd_ hvn
      clear ht hvn hx hca hne hVV
      by_cases hx8:128≤x
      ·have hand:=and7 hxb.1 hxb.2
       have hor7:=or_i64 7 (by decide) (V*128) (x%128) (by unfold I64;omega) (by omega) (by omega) (by omega)
       have hallN:=all_next hall HT.out hx8
       have HALL:=hd_ hallN
       clear hall hallN
       by_cases hbig:268435455<V*128+x%128
       ·have hbad:=io_bad (none_great hrd (by rw[HL.out];exact hlt) HALL.out (by rw[HVN.out];exact hbig)) hor.below
        clear hrd hor
        go_wp2
        go_ret2
        exact hbad
       ·go_wp2
        go_round
        case rel=>exact⟨j+1,by go_num,by omega,HALL.out,by rw[HVN.out],by rw[HVN.out];omega⟩
        case measure=>simp[intOf];omega
      ·have hmod:x%128=x:=by omega
       have hor7:=or_i64 7 (by decide) (V*128) x (by unfold I64;omega) (by omega) (by omega) (by omega)
       have HALL:=hd_ hall
       have hvn2:val ((xs.drop a).take (j+1))=V*128+x:=by rw[HVN.out,hmod]
       have HVN2:=hd_ hvn2
       clear hall hmod hvn2
       by_cases hbig:268435455<V*128+x
       ·have hbad:=io_bad (none_last hrd (by rw[HL.out];exact hlt) HALL.out (by omega) HT.out (by rw[HVN2.out];exact hbig)) hor.below
        clear hrd hor
        go_wp2
        go_ret2
        exact hbad
       ·by_cases hmany:ns.length=15
        ·have hbad:=io_bad (none_many hrd (by rw[HL.out];exact hlt) hmany) hor.below
         have hul:=unnum_length (ns:=ns)
         have hns:ns≠[]:=by intro e;rw[e] at hmany;simp at hmany
         rw[if_neg hns] at hul
         obtain⟨A4,c4,rfl,hc41,hc42,_⟩:=own_shape hor.own
         have h16:16≤(unnum ns).length:=by omega
         clear hrd hor hmany hul hns
         go_wp2
         go_ret2
         exact hbad
        ·have hfew:ns.length<15:=by have:=hrd.few;omega
         have hnext:=read_step hrd hfit.out (by rw[HL.out];exact hlt2) HALL.out (by omega) HT.out H128.out (by rw[HVN2.out];omega) hfew
         rw[HVN2.out] at hnext
         by_cases hns:ns=[]
         ·subst hns
          obtain rfl:=hor.nil_ rfl
          have hW:0≤V*128+x∧V*128+x≤268435455:=by omega
          have hps:=arcs2_pos hW.1
          have HPS:=hd_ hps
          have hbel:=hor.below
          clear hrd hor hfew hmany hps
          by_cases hT2:(V*128+x) / 40≤2
          ·go_wp2_with (at_builtin;refine wpl_iapp rfl (.tmp 72) (.tmp 78) 83 rfl w.heap.size 3 i0 (.int .i64 0) Tryz.underlying83 hi0 hz0 hz1 hz2 rfl (.slice none 0 0) 0 [] rfl (World.ownsRow_nil _ _ _ _) _ 2 2 [(V*128+x) / 40,V*128+x - 40* ((V*128+x) / 40)] rfl (ins_new rfl (fit8_two (by unfold I64;omega) (by unfold I64;omega)) rfl (by simp)) (by omega) (by simp;omega) ?_;intro v' w2 ho2 hg2 _)
           go_roundw
           case rel=>exact⟨a+j+1,_,by go_num,by omega,hnext,out_first hB hbel (by rw[HPS.out,if_pos hT2]) rfl ho2 hg2⟩
           case measure=>simp[intOf];omega
          ·go_wp2_with (at_builtin;refine wpl_iapp rfl (.tmp 72) (.tmp 78) 83 rfl w.heap.size 3 i0 (.int .i64 0) Tryz.underlying83 hi0 hz0 hz1 hz2 rfl (.slice none 0 0) 0 [] rfl (World.ownsRow_nil _ _ _ _) _ 2 2 [2,V*128+x - 80] rfl (ins_new rfl (fit8_two (by unfold I64;omega) (by unfold I64;omega)) rfl (by simp)) (by omega) (by simp;omega) ?_;intro v' w2 ho2 hg2 _)
           go_roundw
           case rel=>exact⟨a+j+1,_,by go_num,by omega,hnext,out_first hB hbel (by rw[HPS.out,if_neg hT2]) rfl ho2 hg2⟩
           case measure=>simp[intOf];omega
         ·have hul:=unnum_length (ns:=ns)
          rw[if_neg hns] at hul
          have hnl:0<ns.length:=by cases ns with |nil=>exact absurd rfl hns |cons _ _=>simp
          obtain⟨A4,c4,rfl,hc41,hc42,_⟩:=own_shape hor.own
          have hNS:=hd_ hns
          have hl16:(unnum ns).length<16:=by omega
          have hl1:0< (unnum ns).length:=by omega
          have hown:=hor.own
          have HOR:=hd_ hor
          clear hrd hfew hmany hns hul hor
          go_wp2_with (at_builtin;refine wpl_iapp rfl (.tmp 65) (.tmp 67) 83 rfl w.heap.size 3 i0 (.int .i64 0) Tryz.underlying83 hi0 hz0 hz1 hz2 rfl (.slice A4 (unnum ns).length c4) _ _ rfl (hown.alloc _) _ 1 1 [V*128+x] rfl (ins_new rfl (fit8_one (by unfold I64;omega)) rfl (by simp)) (by omega) (by simp;omega) ?_;intro v' w2 ho2 hg2 _)
          go_roundw
          case rel=>exact⟨a+j+1,_,by go_num,by omega,hnext,out_next hB HOR.out hNS.out rfl ho2 hg2⟩
          case measure=>simp[intOf];omega
     ·have hbad:=io_bad (none_end hrd (by rw[HL.out];exact hlt) (by rwa[List.take_of_length_le (by rw[List.length_drop,HL.out];omega)] at hall)) hor.below
      clear hrd hor hall hVV hca hne
      go_wp2
      go_ret2
      exact hbad
  ·by_cases hns:ns=[]
   ·subst hns
    have hx0:xs.length=0:=by
     have h2:(xs.take a).length=0:=by rw[←hrd.told];rfl
     rw[List.length_take] at h2
     have:=HL.out
     omega
    have hbad:=io_bad (none_empty hx0) hor.below
    obtain rfl:=hor.nil_ rfl
    clear hrd hor hx0
    go_wp2
    go_ret2
    exact hbad
   ·obtain rfl:a=n:=by omega
    have hdone:=out_done hor (by rw[HL.out];exact hrd) hns
    have hul:=unnum_length (ns:=ns)
    rw[if_neg hns] at hul
    obtain⟨A4,c4,rfl,hc41,hc42,_⟩:=own_shape hor.own
    have hnl:0<ns.length:=by cases ns with |nil=>exact absurd rfl hns |cons _ _=>simp
    have h2: ¬(unnum ns).length<2:=by omega
    have HUL:=hd_ hul
    clear hrd hor hns hul
    go_wp2
    go_ret2
    exact hdone
end Go.Proofs.YtkjkhoglkpepiaaGreatDoor.intc
