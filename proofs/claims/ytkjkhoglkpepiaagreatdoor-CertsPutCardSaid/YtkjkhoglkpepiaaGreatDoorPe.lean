/- Plain facts: what Head's function tells of Put's bytes, whol -/
import Derived.Test.YtkjkhoglkpepiaaGreatDoorLb
import Derived.Test.YtkjkhoglkpepiaaGreatDoorNd
import Derived.Test.YtkjkhoglkpepiaaGreatDoorNc
set_option linter.unusedVariables false
set_option linter.unusedSimpArgs false
namespace Go.Proofs.YtkjkhoglkpepiaaGreatDoor.tlvd
open Go.RowKit tlvc
theorem put_shape (t:Int)(xs:List Int)(hn:xs.length≤65535):
 (putBytes t xs=t::(xs.length:Int)::xs∧xs.length<128)∨(putBytes t xs=t::129::(xs.length:Int)::xs∧128≤xs.length∧xs.length≤255)∨
 (putBytes t xs=t::130::((xs.length:Int) / 256)::((xs.length:Int)%256)::xs∧256≤xs.length):=by
 unfold putBytes hdr
 by_cases h1:(xs.length:Int)<128
 ·rw[if_pos h1];exact .inl ⟨rfl,by omega⟩
 ·rw[if_neg h1]
  by_cases h2:(xs.length:Int)≤255
  ·rw[if_pos h2];exact .inr (.inl ⟨rfl,by omega,by omega⟩)
  ·rw[if_neg h2];exact .inr (.inr ⟨rfl,by omega⟩)
theorem headF_put (t:Int)(xs zs:List Int)(h:endlessB t=false)(hn:xs.length≤65535):headF (putBytes t xs++zs)=(0,t,((1+ (hdr xs.length).length:Nat):Int),(xs.length:Int)):=by
 have h': ¬endlessB t=true:=by simp[h]
 have hl:=put_len t xs
 rcases put_shape t xs hn with ⟨e,h1⟩ | ⟨e,h1,h2⟩ | ⟨e,h1⟩
 ·rw[e] at hl⊢
  simp only[List.length_cons] at hl
  rw[List.cons_append,List.cons_append,headF_s t _ _ h' (by omega),if_neg (by rw[List.length_append];omega)]
  simp only[Prod.mk.injEq,true_and,and_true];omega
 ·rw[e] at hl⊢
  simp only[List.length_cons] at hl
  rw[List.cons_append,List.cons_append,List.cons_append,headF_m t _ _ h',if_neg (by omega),if_neg (by rw[List.length_append];omega)]
  simp only[Prod.mk.injEq,true_and,and_true];omega
 ·rw[e] at hl⊢
  simp only[List.length_cons] at hl
  rw[List.cons_append,List.cons_append,List.cons_append,List.cons_append,headF_l t _ _ _ h',if_neg (by omega),if_neg (by rw[List.length_append];omega)]
  simp only[Prod.mk.injEq,true_and];omega
end Go.Proofs.YtkjkhoglkpepiaaGreatDoor.tlvd
namespace Go.Proofs.YtkjkhoglkpepiaaGreatDoor.ndc
open Go.RowKit tlvc tlvd txc
theorem putW_ok {t:Int}{xs b:List Int}(h:putW t xs=.ok b):endlessB t=false∧xs.length≤65535∧b=putBytes t xs:=by
 unfold putW putF at h
 by_cases h1:endlessB t=true
 ·rw[if_pos h1] at h;simp at h
 ·rw[if_neg h1] at h
  by_cases h2:65535<xs.length
  ·rw[if_pos h2] at h;simp at h
  ·rw[if_neg h2] at h
   simp at h
   exact⟨by simpa using h1,by omega,h.symm⟩
theorem writeF_ok {t:Int}{b0:List Int}{ks:List Nd}{outer:Nat}{b:List Int}(h:writeF (.mk t b0 ks) outer=.ok b):
 aloneF t b0 outer=0∧endlessB t=false∧((compB t=false∧ks=[]∧b0.length≤65535∧b=putBytes t b0)∨(compB t=true∧b0=[]∧∃k,writeL ks (outer+1) wk0=.ok k∧¬(t=49∧k.falls=true)∧k.body.length≤65535∧b=putBytes t k.body)):=by
 unfold writeF at h
 by_cases ha:aloneF t b0 outer=0
 ·rw[if_neg (by simp[ha])] at h
  by_cases hm:misF t b0 ks.length=true
  ·rw[if_pos hm] at h;cases h
  ·rw[if_neg hm] at h
   by_cases hc:compB t=true
   ·rw[if_pos hc] at h
    unfold misF at hm
    rw[if_pos hc] at hm
    have hb0:b0=[]:=List.eq_nil_of_length_eq_zero (by simpa using hm)
    cases hw:writeL ks (outer+1) wk0 with
    |no e=>rw[hw] at h;simp[kresF,finW] at h
    |ok k=>
     rw[hw] at h
     unfold kresF at h
     simp only at h
     by_cases hf:t=49∧k.falls=true
     ·rw[if_pos hf] at h;simp[finW] at h
     ·rw[if_neg hf] at h
      unfold finW at h
      obtain⟨h1,h2,h3⟩:=putW_ok h
      exact⟨ha,h1,.inr ⟨hc,hb0,k,rfl,hf,h2,h3⟩⟩
   ·rw[if_neg hc] at h
    unfold misF at hm
    rw[if_neg hc] at hm
    have hk:ks=[]:=List.eq_nil_of_length_eq_zero (by simpa using hm)
    obtain⟨h1,h2,h3⟩:=putW_ok h
    exact⟨ha,h1,.inl ⟨by simpa using hc,hk,h2,h3⟩⟩
 ·rw[if_pos ha] at h;cases h
theorem putBytes_pos (t:Int)(xs:List Int):0< (putBytes t xs).length:=by rw[put_len];omega
theorem writeF_pos {n:Nd}{outer:Nat}{b:List Int}(h:writeF n outer=.ok b):0<b.length:=by
 obtain⟨t,b0,ks⟩:=n
 rcases(writeF_ok h).2.2 with ⟨_,_,_,rfl⟩ | ⟨_,_,k,_,_,_,rfl⟩<;>exact putBytes_pos _ _
theorem readL_back (d outer:Nat): ∀(ns:List Nd) (IH: ∀n∈ns,∀b,writeF n outer=.ok b→∀pre post:List Int,readF d outer (pre++(b++post)) pre.length=.ok n (pre.length+b.length)) (k k':WK),writeL ns outer k=.ok k'→k'.body.length≤65535→
 ∃rest,k'.body=k.body++rest∧∀(pre:List Int) (r:RK) (f:Nat),rest.length≤f→r.last=k.last→r.falls=k.falls→readL (readF d outer (pre++rest)) (pre++rest) f pre.length r=.ok ⟨r.kids++ns,k'.last,k'.falls⟩
 | [],_,k,k',h,hl=>by
  rw[writeL_nil] at h
  cases h
  refine⟨[],by simp,fun pre r f hf h1 h2=>?_⟩
  obtain⟨rk,rl,rf⟩:=r
  simp only at h1 h2
  subst h1 h2
  cases f with
  |zero=>simp[readL]
  |succ f=>simp[readL]
 |n::ns,IH,k,k',h,hl=>by
  cases hw:writeF n outer with
  |no e=>rw[writeL_no hw] at h;cases h
  |ok b=>
   rw[writeL_ok hw] at h
   obtain⟨rest,hr,hrd⟩:=readL_back d outer ns (fun m hm=>IH m (List.mem_cons_of_mem _ hm)) (k.add b) k' h hl
   have hkb:(k.add b).body=k.body++b:=by
    unfold WK.add
    by_cases hk:k.body.length≤65535
    ·simp only[if_pos hk]
    ·exfalso
     have:(k.add b).body=k.body:=by unfold WK.add;simp only[if_neg hk]
     rw[hr,this,List.length_append] at hl
     omega
   have hpos:=writeF_pos hw
   refine⟨b++rest,by rw[hr,hkb,List.append_assoc],fun pre r f hf h1 h2=>?_⟩
   rw[List.length_append] at hf
   obtain⟨f,rfl⟩: ∃g,f=g+1:=⟨f - 1,by omega⟩
   have hone:=IH n (List.mem_cons_self ..) b hw pre rest
   unfold readL
   rw[if_pos (by simp only[List.length_append];omega),hone]
   simp only
   have hcut:((pre++(b++rest)).take (pre.length+b.length)).drop pre.length=b:=by
    rw[←List.append_assoc,←List.length_append,List.take_left,List.drop_left]
   rw[hcut]
   have:=hrd (pre++b) (r.add n b) f (by omega) (by unfold RK.add WK.add;rfl) (by unfold RK.add WK.add;simp only;rw[h1,h2])
   rw[List.append_assoc,List.length_append] at this
   rw[this]
   unfold RK.add
   simp
end Go.Proofs.YtkjkhoglkpepiaaGreatDoor.ndc
namespace Go.Proofs.YtkjkhoglkpepiaaGreatDoor.ndc
open Go.RowKit tlvc tlvd txc
theorem alone_same {t:Int}(hc:compB t=true)(xs ys:List Int)(outer:Nat):aloneF t xs outer=aloneF t ys outer:=by
 have hm:mayF t xs=mayF t ys:=by
  unfold mayF
  have h: ∀u:Int,compB u=false→t≠u:=fun u hu e=>by subst e;rw[hc] at hu;cases hu
  have n5:=h 5 (by decide)
  have n3:=h 3 (by decide)
  have n12:=h 12 (by decide)
  have n19:=h 19 (by decide)
  have n22:=h 22 (by decide)
  have n27:=h 27 (by decide)
  have n1:=h 1 (by decide)
  have n2:=h 2 (by decide)
  have n6:=h 6 (by decide)
  have n23:=h 23 (by decide)
  have n24:=h 24 (by decide)
  rw[if_neg n5,if_neg n3,if_neg (by omega: ¬(t=12∨t=19∨t=22∨t=27)),if_neg n1,if_neg n2,if_neg n6,if_neg (by omega: ¬(t=23∨t=24))]
  rw[if_neg n5,if_neg n3,if_neg (by omega: ¬(t=12∨t=19∨t=22∨t=27)),if_neg n1,if_neg n2,if_neg n6,if_neg (by omega: ¬(t=23∨t=24))]
 unfold aloneF
 rw[hm]
theorem put_split (t:Int)(xs:List Int): ∃hd,putBytes t xs=hd++xs∧hd.length=1+ (hdr xs.length).length:=by
 refine⟨(putBytes t xs).take (1+ (hdr xs.length).length),?_,?_⟩
 ·have h:=List.take_append_drop (1+ (hdr xs.length).length) (putBytes t xs)
  rw[put_drop t xs _ rfl] at h
  exact h.symm
 ·rw[List.length_take,put_len];omega
theorem readF_put (d outer:Nat)(t:Int)(xs pre post:List Int)(he:endlessB t=false)(hl:xs.length≤65535)(ha:aloneF t xs outer=0):
 ∃hd:List Int,putBytes t xs=hd++xs∧readF (d+1) outer (pre++(putBytes t xs++post)) pre.length=if compB t=false then .ok (.mk t xs []) (pre.length+ (putBytes t xs).length)
  else match readL (readF d (outer+1) ((pre++hd)++xs)) ((pre++hd)++xs) xs.length (pre++hd).length rk0 with
   | .bad a e=>.bad a e
   | .ok k=>if t=49∧k.falls=true then .bad pre.length 42 else .ok (.mk t [] k.kids) (pre.length+ (putBytes t xs).length):=by
 obtain⟨hd,h1,h2⟩:=put_split t xs
 refine⟨hd,h1,?_⟩
 have hh:headF ((pre++(putBytes t xs++post)).drop pre.length)=(0,t,((hd.length:Nat):Int),(xs.length:Int)):=by
  rw[List.drop_left,headF_put t xs post he hl,h2]
 conv=>lhs;unfold readF
 simp only[hh]
 have e1:(((hd.length:Nat):Int)).toNat=hd.length:=by simp
 have e2:(((xs.length:Nat):Int)).toNat=xs.length:=by simp
 rw[e1,e2]
 have hz:pre++(putBytes t xs++post)=((pre++hd)++xs)++post:=by rw[h1];simp
 have hT:pre.length+hd.length+xs.length=((pre++hd)++xs).length:=by simp;omega
 have hF:pre.length+hd.length=(pre++hd).length:=by simp
 have htk:(pre++(putBytes t xs++post)).take (pre.length+hd.length+xs.length)=(pre++hd)++xs:=by rw[hz,hT,List.take_left]
 have hbd:((pre++hd)++xs).drop (pre.length+hd.length)=xs:=by rw[hF,List.drop_left]
 have hend:pre.length+hd.length+xs.length=pre.length+ (putBytes t xs).length:=by rw[h1];simp;omega
 have hsub:pre.length+hd.length+xs.length - (pre.length+hd.length)=xs.length:=by omega
 rw[htk,hbd,ha,hsub,hend,hF]
 rw[if_neg (by simp),if_neg (by simp)]
 rfl
theorem read_back: ∀(m:Nat) (n:Nd) (outer d:Nat),szN n≤m→d+outer=32→∀b,writeF n outer=.ok b→∀pre post:List Int,readF (d+1) outer (pre++(b++post)) pre.length=.ok n (pre.length+b.length)
 |0,.mk t b0 ks,outer,d,h,_=>absurd h (by show¬szL ks+1≤0;omega)
 |m+1,.mk t b0 ks,outer,d,h,hd=>fun b hb pre post=>by
  obtain⟨ha,he,hcase⟩:=writeF_ok hb
  have hsz:szL ks+1≤m+1:=h
  rcases hcase with ⟨hc,rfl,hl,rfl⟩ | ⟨hc,rfl,k,hw,hf,hl,rfl⟩
  ·obtain⟨hd',_,hr⟩:=readF_put d outer t b0 pre post he hl ha
   rw[hr,if_pos hc]
  ·have hou:outer<32:=by
    rcases Nat.lt_or_ge outer 32 with h |h
    ·exact h
    ·unfold aloneF at ha;rw[if_pos h] at ha;cases ha
   obtain⟨d,rfl⟩: ∃g,d=g+1:=⟨d - 1,by omega⟩
   obtain⟨hd',_,hr⟩:=readF_put (d+1) outer t k.body pre post he hl (by rw[alone_same hc k.body [] outer];exact ha)
   rw[hr,if_neg (by rw[hc];simp)]
   obtain⟨rest,h1,h2⟩:=readL_back (d+1) (outer+1) ks (fun n hn b hb pre post=>read_back m n (outer+1) d (by have:=szL_mem hn;omega) (by omega) b hb pre post) wk0 k hw hl
   have h1:k.body=rest:=h1
   rw[←h1] at h2
   rw[h2 (pre++hd') rk0 k.body.length (lr_ _) rfl rfl]
   simp only
   rw[if_neg hf]
   rfl
theorem read_all_back {n:Nd}{b:List Int}(h:writeF n 0=.ok b):readAllF b=.ok n b.length:=by
 have:=read_back _ n 0 32 (lr_ _) rfl b h [] []
 simp at this
 unfold readAllF
 rw[this]
 simp
end Go.Proofs.YtkjkhoglkpepiaaGreatDoor.ndc
namespace Go.Proofs.YtkjkhoglkpepiaaGreatDoor.ndc
open Go.RowKit tlvc tlvd txc
end Go.Proofs.YtkjkhoglkpepiaaGreatDoor.ndc
namespace Go.Proofs.YtkjkhoglkpepiaaGreatDoor.ndc
open Go.RowKit tlvc tlvd txc
theorem putW_put {t:Int}{xs:List Int}(h1:endlessB t=false)(h2:xs.length≤65535):putW t xs=.ok (putBytes t xs):=by
 have hp:putF t xs=(putBytes t xs,0):=by unfold putF;rw[if_neg (by rw[h1];simp),if_neg (by omega)]
 unfold putW
 rw[hp]
 rfl
end Go.Proofs.YtkjkhoglkpepiaaGreatDoor.ndc
namespace Go.Proofs.YtkjkhoglkpepiaaGreatDoor.ndc
open Go.RowKit tlvc tlvd txc
theorem errW_ne: ∀(m:Nat) (n:Nd) (outer:Nat) (e:Int),szN n≤m→writeF n outer=.no e→e≠0
 |0,.mk t b ks,outer,e,h,_=>absurd h (by show¬szL ks+1≤0;omega)
 |m+1,.mk t b ks,outer,e,hs,h=>by
  have hsz:szL ks+1≤m+1:=hs
  have hput: ∀{xs:List Int} {e:Int},putW t xs=.no e→e≠0:=fun {xs e} h=>by
   unfold putW at h
   by_cases h0:(putF t xs).2=0
   ·rw[if_pos h0] at h;cases h
   ·rw[if_neg h0] at h;cases h;exact h0
  have hL: ∀(ns:List Nd) (k:WK) (e:Int),(∀n∈ns,n∈ks)→writeL ns (outer+1) k=.no e→e≠0:=by
   intro ns
   induction ns with
   |nil=>intro k e _ h;rw[writeL_nil] at h;cases h
   |cons n ns ih=>
    intro k e hm h
    cases hw:writeF n (outer+1) with
    |no e'=>
     rw[writeL_no hw] at h
     cases h
     have:=szL_mem (hm n (List.mem_cons_self ..))
     exact errW_ne m n (outer+1) e (by omega) hw
    |ok b=>rw[writeL_ok hw] at h;exact ih _ e (fun n hn=>hm n (List.mem_cons_of_mem _ hn)) h
  unfold writeF at h
  by_cases ha:aloneF t b outer=0
  ·rw[if_neg (by simp[ha])] at h
   by_cases hm:misF t b ks.length=true
   ·rw[if_pos hm] at h;cases h;decide
   ·rw[if_neg hm] at h
    by_cases hc:compB t=true
    ·rw[if_pos hc] at h
     cases hw:writeL ks (outer+1) wk0 with
     |no e'=>rw[hw] at h;simp[kresF,finW] at h;subst h;exact hL ks wk0 _ (fun n hn=>hn) hw
     |ok k=>
      rw[hw] at h
      unfold kresF at h
      simp only at h
      by_cases hf:t=49∧k.falls=true
      ·rw[if_pos hf] at h;simp[finW] at h;subst h;decide
      ·rw[if_neg hf] at h
       unfold finW at h
       exact hput h
    ·rw[if_neg hc] at h;exact hput h
  ·rw[if_pos ha] at h;cases h;exact ha
end Go.Proofs.YtkjkhoglkpepiaaGreatDoor.ndc
