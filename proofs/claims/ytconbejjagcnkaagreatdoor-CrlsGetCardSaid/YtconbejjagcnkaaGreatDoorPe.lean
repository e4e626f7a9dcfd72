/- Plain facts: what Head's function tells of Put's bytes, whole, cut, and with more behind. There and back: what is read of what was written. Nothing here walks. What was written is read as it was. What was read is written as it stood. What was read is written as it stood: the node. Where what is wrong lies. -/
import Derived.Test.YtconbejjagcnkaaGreatDoorLb
import Derived.Test.YtconbejjagcnkaaGreatDoorNd
import Derived.Test.YtconbejjagcnkaaGreatDoorNc
namespace Go.Proofs.YtconbejjagcnkaaGreatDoor.tlvd
open Go.RowKit Go.Proofs.YtconbejjagcnkaaGreatDoor.tlvc
set_option linter.unusedVariables false

theorem put_shape (t:Int)(xs:List Int)(hn:xs.length≤65535):
    (putBytes t xs=t::(xs.length:Int)::xs∧xs.length<128)∨(putBytes t xs=t::129::(xs.length:Int)::xs∧128≤xs.length∧xs.length≤255)∨
    (putBytes t xs=t::130::((xs.length:Int) / 256)::((xs.length:Int)%256)::xs∧256≤xs.length):=by
  unfold putBytes hdr
  by_cases h1:(xs.length:Int)<128
  · rw[if_pos h1];exact .inl ⟨rfl,by omega⟩
  · rw[if_neg h1]
    by_cases h2:(xs.length:Int)≤255
    · rw[if_pos h2];exact .inr (.inl ⟨rfl,by omega,by omega⟩)
    · rw[if_neg h2];exact .inr (.inr ⟨rfl,by omega⟩)

/-- Head of Put, whatever stands behind. -/
theorem headF_put (t:Int)(xs zs:List Int)(h:endlessB t=false)(hn:xs.length≤65535):headF (putBytes t xs++zs)=(0,t,((1+ (hdr xs.length).length:Nat):Int),(xs.length:Int)):=by
  have h': ¬endlessB t=true:=by simp[h]
  have hl:=put_len t xs
  rcases put_shape t xs hn with ⟨e,h1⟩ | ⟨e,h1,h2⟩ | ⟨e,h1⟩
  · rw[e] at hl⊢
    simp only[List.length_cons] at hl
    rw[List.cons_append,List.cons_append,headF_s t _ _ h' (by omega),if_neg (by rw[List.length_append];omega)]
    simp only[Prod.mk.injEq,true_and,and_true];omega
  · rw[e] at hl⊢
    simp only[List.length_cons] at hl
    rw[List.cons_append,List.cons_append,List.cons_append,headF_m t _ _ h',if_neg (by omega),if_neg (by rw[List.length_append];omega)]
    simp only[Prod.mk.injEq,true_and,and_true];omega
  · rw[e] at hl⊢
    simp only[List.length_cons] at hl
    rw[List.cons_append,List.cons_append,List.cons_append,List.cons_append,headF_l t _ _ _ h',if_neg (by omega),if_neg (by rw[List.length_append];omega)]
    simp only[Prod.mk.injEq,true_and];omega

/-- Put of what Head tells. -/
theorem put_head (l:List Int)(T h s:Int)(hf:Fit l)(he:headF l=(0,T,h,s)):
    endlessB T=false∧(0≤T∧T≤255)∧∃hn sn:Nat,h=hn∧s=sn∧2≤hn∧sn≤65535∧hn+sn≤l.length∧putBytes T ((l.drop hn).take sn)=l.take (hn+sn):=by
  match l,hf,he with
  | [],_,he=>simp[headF] at he
  | [t],_,he=>rw[headF_one] at he;split at he<;>simp at he
  |t::f::r,hf,he=>
   have htf:=hf t (by simp)
   have hff:=hf f (by simp)
   by_cases ht:endlessB t=true
   · rw[headF_tag t f r ht] at he;simp at he
   · have ht':endlessB t=false:=by simpa using ht
     by_cases hx:f=128∨130<f
     · rw[headF_len t f r ht hx] at he;simp at he
     · by_cases hs:f<128
       · rw[headF_s t f r ht hs] at he
         split at he
         · simp at he
         · rename_i hlen
           simp only[Prod.mk.injEq,true_and] at he
           obtain⟨rfl,rfl,rfl⟩:=he
           obtain⟨n,rfl⟩:=Int.eq_ofNat_of_zero_le hff.1
           refine⟨ht',htf,2,n,rfl,rfl,by omega,by omega,by simp only[List.length_cons];omega,?_⟩
           have e1:((t::(n:Int)::r).drop 2).take n=r.take n:=rfl
           have e2:(t::(n:Int)::r).take (2+n)=t::(n:Int)::r.take n:=by rw[Nat.add_comm];rfl
           have e3:(r.take n).length=n:=by rw[List.length_take];omega
           rw[e1,e2,putBytes,e3,hdr,if_pos hs];rfl
       · by_cases h9:f=129
         · subst h9
           rcases r with _ | ⟨x,r2⟩
           · rw[headF_m0 t ht] at he;simp at he
           · have hxf:=hf x (by simp)
             rw[headF_m t x r2 ht] at he
             split at he
             · simp at he
             · rename_i h1
               split at he
               · simp at he
               · rename_i hlen
                 simp only[Prod.mk.injEq,true_and] at he
                 obtain⟨rfl,rfl,rfl⟩:=he
                 obtain⟨n,rfl⟩:=Int.eq_ofNat_of_zero_le hxf.1
                 refine⟨ht',htf,3,n,rfl,rfl,by omega,by omega,by simp only[List.length_cons];omega,?_⟩
                 have e1:((t::129::(n:Int)::r2).drop 3).take n=r2.take n:=rfl
                 have e2:(t::129::(n:Int)::r2).take (3+n)=t::129::(n:Int)::r2.take n:=by rw[Nat.add_comm];rfl
                 have e3:(r2.take n).length=n:=by rw[List.length_take];omega
                 rw[e1,e2,putBytes,e3,hdr,if_neg h1,if_pos (by omega)];rfl
         · obtain rfl:f=130:=by omega
           rcases r with _ | ⟨x,_ | ⟨y,r2⟩⟩
           · rw[headF_l0 t ht] at he;simp at he
           · rw[headF_l1 t x ht] at he;simp at he
           · have hxf:=hf x (by simp)
             have hyf:=hf y (by simp)
             rw[headF_l t x y r2 ht] at he
             split at he
             · simp at he
             · rename_i h1
               split at he
               · simp at he
               · rename_i hlen
                 simp only[Prod.mk.injEq,true_and] at he
                 obtain⟨rfl,rfl,rfl⟩:=he
                 obtain⟨n,hn⟩:=Int.eq_ofNat_of_zero_le (show 0≤x*256+y by omega)
                 refine⟨ht',htf,4,n,rfl,hn,by omega,by omega,by simp only[List.length_cons];omega,?_⟩
                 have e1:((t::130::x::y::r2).drop 4).take n=r2.take n:=rfl
                 have e2:(t::130::x::y::r2).take (4+n)=t::130::x::y::r2.take n:=by rw[Nat.add_comm];rfl
                 have e3:(r2.take n).length=n:=by rw[List.length_take];omega
                 have e4:(n:Int) / 256=x:=by omega
                 have e5:(n:Int)%256=y:=by omega
                 rw[e1,e2,putBytes,e3,hdr,if_neg (by omega),if_neg (by omega),e4,e5];rfl
end Go.Proofs.YtconbejjagcnkaaGreatDoor.tlvd
namespace Go.Proofs.YtconbejjagcnkaaGreatDoor.ndc
open Go.RowKit Go.Proofs.YtconbejjagcnkaaGreatDoor.tlvc Go.Proofs.YtconbejjagcnkaaGreatDoor.tlvd Go.Proofs.YtconbejjagcnkaaGreatDoor.txc
set_option linter.unusedVariables false
set_option linter.unusedSimpArgs false
theorem putW_ok {t:Int}{xs b:List Int}(h:putW t xs=.ok b):endlessB t=false∧xs.length≤65535∧b=putBytes t xs:=by
  unfold putW putF at h
  by_cases h1:endlessB t=true
  · rw[if_pos h1] at h;simp at h
  · rw[if_neg h1] at h
    by_cases h2:65535<xs.length
    · rw[if_pos h2] at h;simp at h
    · rw[if_neg h2] at h
      simp at h
      exact⟨by simpa using h1,by omega,h.symm⟩
theorem writeF_ok {t:Int}{b0:List Int}{ks:List Nd}{outer:Nat}{b:List Int}(h:writeF (.mk t b0 ks) outer=.ok b):
    aloneF t b0 outer=0∧endlessB t=false∧((compB t=false∧ks=[]∧b0.length≤65535∧b=putBytes t b0)∨(compB t=true∧b0=[]∧∃k,writeL ks (outer+1) wk0=.ok k∧¬(t=49∧k.falls=true)∧k.body.length≤65535∧b=putBytes t k.body)):=by
  unfold writeF at h
  by_cases ha:aloneF t b0 outer=0
  · rw[if_neg (by simp[ha])] at h
    by_cases hm:misF t b0 ks.length=true
    · rw[if_pos hm] at h;cases h
    · rw[if_neg hm] at h
      by_cases hc:compB t=true
      · rw[if_pos hc] at h
        unfold misF at hm
        rw[if_pos hc] at hm
        have hb0:b0=[]:=List.eq_nil_of_length_eq_zero (by simpa using hm)
        cases hw:writeL ks (outer+1) wk0 with
        |no e=>rw[hw] at h;simp[kresF,finW] at h
        |ok k=>
         rw[hw] at h
         unfold kresF at h
         simp only at h
         by_cases hf:t=49∧k.falls=true
         · rw[if_pos hf] at h;simp[finW] at h
         · rw[if_neg hf] at h
           unfold finW at h
           obtain⟨h1,h2,h3⟩:=putW_ok h
           exact⟨ha,h1,.inr ⟨hc,hb0,k,rfl,hf,h2,h3⟩⟩
      · rw[if_neg hc] at h
        unfold misF at hm
        rw[if_neg hc] at hm
        have hk:ks=[]:=List.eq_nil_of_length_eq_zero (by simpa using hm)
        obtain⟨h1,h2,h3⟩:=putW_ok h
        exact⟨ha,h1,.inl ⟨by simpa using hc,hk,h2,h3⟩⟩
  · rw[if_pos ha] at h;cases h
theorem putBytes_pos (t:Int)(xs:List Int):0< (putBytes t xs).length:=by rw[put_len];omega
theorem writeF_pos {n:Nd}{outer:Nat}{b:List Int}(h:writeF n outer=.ok b):0<b.length:=by
  obtain⟨t,b0,ks⟩:=n
  rcases(writeF_ok h).2.2 with ⟨_,_,_,rfl⟩ | ⟨_,_,k,_,_,_,rfl⟩<;>exact putBytes_pos _ _
theorem readL_back (d outer:Nat): ∀(ns:List Nd) (IH: ∀n∈ns,∀b,writeF n outer=.ok b→∀pre post:List Int,readF d outer (pre++(b++post)) pre.length=.ok n (pre.length+b.length)) (k k':WK),writeL ns outer k=.ok k'→k'.body.length≤65535→
    ∃rest,k'.body=k.body++rest∧∀(pre:List Int) (r:RK) (f:Nat),rest.length≤f→r.last=k.last→r.falls=k.falls→readL (readF d outer (pre++rest)) (pre++rest) f pre.length r=.ok ⟨r.kids++ns,k'.last,k'.falls⟩
  | [],_,k,k',h,hl=>by
    rw[writeL_nil] at h
    cases h
    refine⟨[],by simp,fun pre r f hf h1 h2=>?_⟩
    obtain⟨rk,rl,rf⟩:=r
    simp only at h1 h2
    subst h1 h2
    cases f with
    |zero=>simp[readL]
    |succ f=>simp[readL]
  |n::ns,IH,k,k',h,hl=>by
   cases hw:writeF n outer with
   |no e=>rw[writeL_no hw] at h;cases h
   |ok b=>
    rw[writeL_ok hw] at h
    obtain⟨rest,hr,hrd⟩:=readL_back d outer ns (fun m hm=>IH m (List.mem_cons_of_mem _ hm)) (k.add b) k' h hl
    have hkb:(k.add b).body=k.body++b:=by
      unfold WK.add
      by_cases hk:k.body.length≤65535
      · simp only[if_pos hk]
      · exfalso
        have:(k.add b).body=k.body:=by unfold WK.add;simp only[if_neg hk]
        rw[hr,this,List.length_append] at hl
        omega
    have hpos:=writeF_pos hw
    refine⟨b++rest,by rw[hr,hkb,List.append_assoc],fun pre r f hf h1 h2=>?_⟩
    rw[List.length_append] at hf
    obtain⟨f,rfl⟩: ∃g,f=g+1:=⟨f - 1,by omega⟩
    have hone:=IH n (List.mem_cons_self ..) b hw pre rest
    unfold readL
    rw[if_pos (by simp only[List.length_append];omega),hone]
    simp only
    have hcut:((pre++(b++rest)).take (pre.length+b.length)).drop pre.length=b:=by
      rw[←List.append_assoc,←List.length_append,List.take_left,List.drop_left]
    rw[hcut]
    have:=hrd (pre++b) (r.add n b) f (by omega) (by unfold RK.add WK.add;rfl) (by unfold RK.add WK.add;simp only;rw[h1,h2])
    rw[List.append_assoc,List.length_append] at this
    rw[this]
    unfold RK.add
    simp
end Go.Proofs.YtconbejjagcnkaaGreatDoor.ndc
namespace Go.Proofs.YtconbejjagcnkaaGreatDoor.ndc
open Go.RowKit Go.Proofs.YtconbejjagcnkaaGreatDoor.tlvc Go.Proofs.YtconbejjagcnkaaGreatDoor.tlvd Go.Proofs.YtconbejjagcnkaaGreatDoor.txc
set_option linter.unusedVariables false
set_option linter.unusedSimpArgs false
theorem alone_same {t:Int}(hc:compB t=true)(xs ys:List Int)(outer:Nat):aloneF t xs outer=aloneF t ys outer:=by
  have hm:mayF t xs=mayF t ys:=by
    unfold mayF
    have h: ∀u:Int,compB u=false→t≠u:=fun u hu e=>by subst e;rw[hc] at hu;cases hu
    have n5:=h 5 (by decide)
    have n3:=h 3 (by decide)
    have n12:=h 12 (by decide)
    have n19:=h 19 (by decide)
    have n22:=h 22 (by decide)
    have n27:=h 27 (by decide)
    have n1:=h 1 (by decide)
    have n2:=h 2 (by decide)
    have n6:=h 6 (by decide)
    have n23:=h 23 (by decide)
    have n24:=h 24 (by decide)
    rw[if_neg n5,if_neg n3,if_neg (by omega: ¬(t=12∨t=19∨t=22∨t=27)),if_neg n1,if_neg n2,if_neg n6,if_neg (by omega: ¬(t=23∨t=24))]
    rw[if_neg n5,if_neg n3,if_neg (by omega: ¬(t=12∨t=19∨t=22∨t=27)),if_neg n1,if_neg n2,if_neg n6,if_neg (by omega: ¬(t=23∨t=24))]
  unfold aloneF
  rw[hm]
theorem put_split (t:Int)(xs:List Int): ∃hd,putBytes t xs=hd++xs∧hd.length=1+ (hdr xs.length).length:=by
  refine⟨(putBytes t xs).take (1+ (hdr xs.length).length),?_,?_⟩
  · have h:=List.take_append_drop (1+ (hdr xs.length).length) (putBytes t xs)
    rw[put_drop t xs _ rfl] at h
    exact h.symm
  · rw[List.length_take,put_len];omega
theorem readF_put (d outer:Nat)(t:Int)(xs pre post:List Int)(he:endlessB t=false)(hl:xs.length≤65535)(ha:aloneF t xs outer=0):
    ∃hd:List Int,putBytes t xs=hd++xs∧readF (d+1) outer (pre++(putBytes t xs++post)) pre.length=if compB t=false then .ok (.mk t xs []) (pre.length+ (putBytes t xs).length)
     else match readL (readF d (outer+1) ((pre++hd)++xs)) ((pre++hd)++xs) xs.length (pre++hd).length rk0 with
       | .bad a e=>.bad a e
       | .ok k=>if t=49∧k.falls=true then .bad pre.length 42 else .ok (.mk t [] k.kids) (pre.length+ (putBytes t xs).length):=by
  obtain⟨hd,h1,h2⟩:=put_split t xs
  refine⟨hd,h1,?_⟩
  have hh:headF ((pre++(putBytes t xs++post)).drop pre.length)=(0,t,((hd.length:Nat):Int),(xs.length:Int)):=by
    rw[List.drop_left,headF_put t xs post he hl,h2]
  conv=>lhs;unfold readF
  simp only[hh]
  have e1:(((hd.length:Nat):Int)).toNat=hd.length:=by simp
  have e2:(((xs.length:Nat):Int)).toNat=xs.length:=by simp
  rw[e1,e2]
  have hz:pre++(putBytes t xs++post)=((pre++hd)++xs)++post:=by rw[h1];simp
  have hT:pre.length+hd.length+xs.length=((pre++hd)++xs).length:=by simp;omega
  have hF:pre.length+hd.length=(pre++hd).length:=by simp
  have htk:(pre++(putBytes t xs++post)).take (pre.length+hd.length+xs.length)=(pre++hd)++xs:=by rw[hz,hT,List.take_left]
  have hbd:((pre++hd)++xs).drop (pre.length+hd.length)=xs:=by rw[hF,List.drop_left]
  have hend:pre.length+hd.length+xs.length=pre.length+ (putBytes t xs).length:=by rw[h1];simp;omega
  have hsub:pre.length+hd.length+xs.length - (pre.length+hd.length)=xs.length:=by omega
  rw[htk,hbd,ha,hsub,hend,hF]
  rw[if_neg (by simp),if_neg (by simp)]
  rfl
theorem read_back: ∀(m:Nat) (n:Nd) (outer d:Nat),szN n≤m→d+outer=32→∀b,writeF n outer=.ok b→∀pre post:List Int,readF (d+1) outer (pre++(b++post)) pre.length=.ok n (pre.length+b.length)
  |0,.mk t b0 ks,outer,d,h,_=>absurd h (by show¬szL ks+1≤0;omega)
  |m+1,.mk t b0 ks,outer,d,h,hd=>fun b hb pre post=>by
   obtain⟨ha,he,hcase⟩:=writeF_ok hb
   have hsz:szL ks+1≤m+1:=h
   rcases hcase with ⟨hc,rfl,hl,rfl⟩ | ⟨hc,rfl,k,hw,hf,hl,rfl⟩
   · obtain⟨hd',_,hr⟩:=readF_put d outer t b0 pre post he hl ha
     rw[hr,if_pos hc]
   · have hou:outer<32:=by
       rcases Nat.lt_or_ge outer 32 with h |h
       · exact h
       · unfold aloneF at ha;rw[if_pos h] at ha;cases ha
     obtain⟨d,rfl⟩: ∃g,d=g+1:=⟨d - 1,by omega⟩
     obtain⟨hd',_,hr⟩:=readF_put (d+1) outer t k.body pre post he hl (by rw[alone_same hc k.body [] outer];exact ha)
     rw[hr,if_neg (by rw[hc];simp)]
     obtain⟨rest,h1,h2⟩:=readL_back (d+1) (outer+1) ks (fun n hn b hb pre post=>read_back m n (outer+1) d (by have:=szL_mem hn;omega) (by omega) b hb pre post) wk0 k hw hl
     have h1:k.body=rest:=h1
     rw[←h1] at h2
     rw[h2 (pre++hd') rk0 k.body.length (Nat.le_refl _) rfl rfl]
     simp only
     rw[if_neg hf]
     rfl
/-- What is read of a right node's bytes is the node. -/
theorem read_all_back {n:Nd}{b:List Int}(h:writeF n 0=.ok b):readAllF b=.ok n b.length:=by
  have:=read_back _ n 0 32 (Nat.le_refl _) rfl b h [] []
  simp at this
  unfold readAllF
  rw[this]
  simp
end Go.Proofs.YtconbejjagcnkaaGreatDoor.ndc
namespace Go.Proofs.YtconbejjagcnkaaGreatDoor.ndc
open Go.RowKit Go.Proofs.YtconbejjagcnkaaGreatDoor.tlvc Go.Proofs.YtconbejjagcnkaaGreatDoor.tlvd Go.Proofs.YtconbejjagcnkaaGreatDoor.txc
set_option linter.unusedVariables false
set_option linter.unusedSimpArgs false
theorem writeL_back (d outer:Nat)(ys:List Int)(IH: ∀n next nx,next≤ys.length→readF d outer ys next=.ok n nx→writeF n outer=.ok ((ys.take nx).drop next)∧next<nx∧nx≤ys.length):
    ∀(f next:Nat) (r r':RK),next≤ys.length→ys.length - next≤f→readL (readF d outer ys) ys f next r=.ok r'→
    ∃ns,r'.kids=r.kids++ns∧∀k:WK,k.last=r.last→k.falls=r.falls→k.body.length+ (ys.length - next)≤65535→writeL ns outer k=.ok ⟨k.body++ys.drop next,r'.last,r'.falls⟩
  |0,next,r,r',hn,hf,h=>by
   unfold readL at h
   cases h
   obtain rfl:next=ys.length:=by omega
   refine⟨[],by simp,fun k h1 h2 _=>?_⟩
   rw[writeL_nil,List.drop_length,List.append_nil,←h1,←h2]
  |f+1,next,r,r',hn,hf,h=>by
   unfold readL at h
   by_cases hlt:next<ys.length
   · rw[if_pos hlt] at h
     cases hr:readF d outer ys next with
     |bad a e=>rw[hr] at h;cases h
     |ok n nx=>
      rw[hr] at h
      simp only at h
      obtain⟨hw,h1,h2⟩:=IH n next nx hn hr
      obtain⟨ns,hk,hwl⟩:=writeL_back d outer ys IH f nx (r.add n ((ys.take nx).drop next)) r' h2 (by omega) h
      refine⟨n::ns,by rw[hk];simp[RK.add],fun k e1 e2 hb=>?_⟩
      rw[writeL_ok hw]
      have hlb:((ys.take nx).drop next).length=nx - next:=by simp;omega
      have hadd:k.add ((ys.take nx).drop next)=⟨k.body++(ys.take nx).drop next,(ys.take nx).drop next,k.falls || behind k.last ((ys.take nx).drop next)⟩:=by unfold WK.add;rw[if_pos (by omega)]
      rw[hadd]
      have:=hwl ⟨k.body++(ys.take nx).drop next,(ys.take nx).drop next,k.falls || behind k.last ((ys.take nx).drop next)⟩ rfl (by unfold RK.add;simp only;rw[e1,e2]) (by simp only[List.length_append,hlb];omega)
      rw[this]
      simp only[List.append_assoc]
      have hcat:(ys.take nx).drop next++ys.drop nx=ys.drop next:=by
        have:=List.take_append_drop nx ys
        conv=>rhs;rw[←this]
        rw[List.drop_append_of_le_length (by simp;omega)]
      rw[hcat]
   · rw[if_neg hlt] at h
     cases h
     obtain rfl:next=ys.length:=by omega
     refine⟨[],by simp,fun k h1 h2 _=>?_⟩
     rw[writeL_nil,List.drop_length,List.append_nil,←h1,←h2]
end Go.Proofs.YtconbejjagcnkaaGreatDoor.ndc
namespace Go.Proofs.YtconbejjagcnkaaGreatDoor.ndc
open Go.RowKit Go.Proofs.YtconbejjagcnkaaGreatDoor.tlvc Go.Proofs.YtconbejjagcnkaaGreatDoor.tlvd Go.Proofs.YtconbejjagcnkaaGreatDoor.txc
set_option linter.unusedVariables false
set_option linter.unusedSimpArgs false
theorem putW_put {t:Int}{xs:List Int}(h1:endlessB t=false)(h2:xs.length≤65535):putW t xs=.ok (putBytes t xs):=by
  have hp:putF t xs=(putBytes t xs,0):=by unfold putF;rw[if_neg (by rw[h1];simp),if_neg (by omega)]
  unfold putW
  rw[hp]
  rfl
theorem write_back: ∀(d outer:Nat) (xs:List Int) (at_ nx:Nat) (n:Nd),d+outer=32→Fit xs→at_≤xs.length→readF (d+1) outer xs at_=.ok n nx→
    writeF n outer=.ok ((xs.take nx).drop at_)∧at_<nx∧nx≤xs.length
  |d,outer,xs,at_,nx,n,hdo,hf,hat,h=>by
   unfold readF at h
   rcases hh:headF (xs.drop at_) with ⟨e0,T,hz,sz⟩
   rw[hh] at h
   simp only at h
   by_cases h0:e0=0
   · subst h0
     obtain⟨he,hT,hn,sn,rfl,rfl,hn2,hs2,hlen,hput⟩:=put_head (xs.drop at_) T hz sz (fun x hx=>hf x (List.mem_of_mem_drop hx)) hh
     rw[if_neg (by simp)] at h
     simp only[Int.toNat_natCast] at h
     rw[List.length_drop] at hlen
     have hbody:((xs.drop at_).drop hn).take sn=(xs.take (at_+hn+sn)).drop (at_+hn):=by
       rw[List.drop_drop,List.drop_take]
       congr 1
       omega
     have hall:(xs.drop at_).take (hn+sn)=(xs.take (at_+hn+sn)).drop at_:=by
       rw[List.drop_take]
       congr 1
       omega
     rw[hbody,hall] at hput
     have hbl:((xs.take (at_+hn+sn)).drop (at_+hn)).length=sn:=by simp;omega
     obtain⟨body,hbd⟩: ∃x,(xs.take (at_+hn+sn)).drop (at_+hn)=x:=⟨_,rfl⟩
     rw[hbd] at h hput hbl
     by_cases ha:aloneF T body outer=0
     · rw[if_neg (by simp[ha])] at h
       by_cases hc:compB T=false
       · rw[if_pos hc] at h
         cases h
         refine⟨?_,by omega,by omega⟩
         unfold writeF
         rw[if_neg (by simp[ha]),if_neg (by unfold misF;rw[hc];simp),if_neg (by rw[hc];simp),putW_put he (by omega),hput]
       · have hc:compB T=true:=by simpa using hc
         rw[if_neg (by rw[hc];simp)] at h
         have hou:outer<32:=by
           rcases Nat.lt_or_ge outer 32 with h |h
           · exact h
           · unfold aloneF at ha;rw[if_pos h] at ha;cases ha
         cases hr:readL (readF d (outer+1) (xs.take (at_+hn+sn))) (xs.take (at_+hn+sn)) (at_+hn+sn - (at_+hn)) (at_+hn) rk0 with
         |bad a e=>rw[hr] at h;cases h
         |ok k=>
          rw[hr] at h
          simp only at h
          by_cases hfa:T=49∧k.falls=true
          · rw[if_pos hfa] at h;cases h
          · rw[if_neg hfa] at h
            cases h
            refine⟨?_,by omega,by omega⟩
            obtain⟨d,rfl⟩: ∃g,d=g+1:=⟨d - 1,by omega⟩
            have hyl:(xs.take (at_+hn+sn)).length=at_+hn+sn:=by simp;omega
            have hfy:Fit (xs.take (at_+hn+sn)):=fun x hx=>hf x (List.mem_of_mem_take hx)
            obtain⟨ns,hk,hwl⟩:=writeL_back (d+1) (outer+1) (xs.take (at_+hn+sn)) (fun n next nx hle hrd=>write_back d (outer+1) _ next nx n (by omega) hfy hle hrd) _ _ _ _ (by omega) (by omega) hr
            have hk:k.kids=ns:=hk
            have hw:=hwl wk0 rfl rfl (by show 0+_≤_;omega)
            rw[hbd] at hw
            have hw:writeL ns (outer+1) wk0=.ok ⟨body,k.last,k.falls⟩:=hw
            rw[hk]
            unfold writeF
            rw[if_neg (by rw[alone_same hc [] body outer,ha];simp),if_neg (by unfold misF;rw[hc];simp),if_pos hc,hw]
            unfold kresF
            simp only
            rw[if_neg hfa]
            unfold finW
            simp only
            rw[putW_put he (by omega),hput]
     · rw[if_pos ha] at h;cases h
   · rw[if_pos h0] at h;cases h
end Go.Proofs.YtconbejjagcnkaaGreatDoor.ndc
namespace Go.Proofs.YtconbejjagcnkaaGreatDoor.ndc
open Go.RowKit Go.Proofs.YtconbejjagcnkaaGreatDoor.tlvc Go.Proofs.YtconbejjagcnkaaGreatDoor.tlvd Go.Proofs.YtconbejjagcnkaaGreatDoor.txc
set_option linter.unusedVariables false
set_option linter.unusedSimpArgs false
theorem readL_place {rec:Nat→RR}{ys:List Int}(hok: ∀n next nx,next≤ys.length→rec next=.ok n nx→nx≤ys.length)(hbad: ∀next a e,next≤ys.length→rec next=.bad a e→(0≤a∧a≤ys.length)∧e≠0):
    ∀(f next:Nat) (r:RK) (a e:Int),next≤ys.length→readL rec ys f next r=.bad a e→(0≤a∧a≤ys.length)∧e≠0
  |0,next,r,a,e,hn,h=>by unfold readL at h;cases h
  |f+1,next,r,a,e,hn,h=>by
   unfold readL at h
   by_cases hlt:next<ys.length
   · rw[if_pos hlt] at h
     cases hr:rec next with
     |bad a' e'=>rw[hr] at h;cases h;exact hbad next a e hn hr
     |ok n nx=>
      rw[hr] at h
      exact readL_place hok hbad f nx _ a e (hok n next nx hn hr) h
   · rw[if_neg hlt] at h;cases h
theorem readF_place: ∀(d outer:Nat) (xs:List Int) (at_:Nat) (a e:Int),d+outer=32→Fit xs→at_≤xs.length→readF (d+1) outer xs at_=.bad a e→(0≤a∧a≤xs.length)∧e≠0
  |d,outer,xs,at_,a,e,hdo,hf,hat,h=>by
   have hz:(0:Int)≤(at_:Int)∧(at_:Int)≤(xs.length:Int):=by omega
   unfold readF at h
   rcases hh:headF (xs.drop at_) with ⟨e0,T,hz',sz⟩
   rw[hh] at h
   simp only at h
   by_cases h0:e0=0
   · subst h0
     obtain⟨he,hT,hn,sn,rfl,rfl,hn2,hs2,hlen,hput⟩:=put_head (xs.drop at_) T hz' sz (fun x hx=>hf x (List.mem_of_mem_drop hx)) hh
     rw[if_neg (by simp)] at h
     simp only[Int.toNat_natCast] at h
     rw[List.length_drop] at hlen
     obtain⟨body,hbd⟩: ∃x,(xs.take (at_+hn+sn)).drop (at_+hn)=x:=⟨_,rfl⟩
     rw[hbd] at h
     by_cases ha:aloneF T body outer=0
     · rw[if_neg (by simp[ha])] at h
       by_cases hc:compB T=false
       · rw[if_pos hc] at h;cases h
       · rw[if_neg hc] at h
         have hou:outer<32:=by
           rcases Nat.lt_or_ge outer 32 with h |h
           · exact h
           · unfold aloneF at ha;rw[if_pos h] at ha;cases ha
         obtain⟨d,rfl⟩: ∃g,d=g+1:=⟨d - 1,by omega⟩
         have hyl:(xs.take (at_+hn+sn)).length=at_+hn+sn:=by simp;omega
         have hfy:Fit (xs.take (at_+hn+sn)):=fun x hx=>hf x (List.mem_of_mem_take hx)
         cases hr:readL (readF (d+1) (outer+1) (xs.take (at_+hn+sn))) (xs.take (at_+hn+sn)) (at_+hn+sn - (at_+hn)) (at_+hn) rk0 with
         |bad a' e'=>
          rw[hr] at h
          cases h
          have:=readL_place (fun n next nx hle hrd=>(write_back d (outer+1) _ next nx n (by omega) hfy hle hrd).2.2) (fun next a e hle hrd=>readF_place d (outer+1) _ next a e (by omega) hfy hle hrd) _ _ _ a e (by omega) hr
          refine⟨⟨this.1.1,?_⟩,this.2⟩
          have h3:=this.1.2
          rw[hyl] at h3
          omega
         |ok k=>
          rw[hr] at h
          simp only at h
          by_cases hfa:T=49∧k.falls=true
          · rw[if_pos hfa] at h;cases h;exact⟨hz,by decide⟩
          · rw[if_neg hfa] at h;cases h
     · rw[if_pos ha] at h;cases h;exact⟨hz,ha⟩
   · rw[if_pos h0] at h;cases h;exact⟨hz,h0⟩
/-- An error of the writer is one. -/
theorem errW_ne: ∀(m:Nat) (n:Nd) (outer:Nat) (e:Int),szN n≤m→writeF n outer=.no e→e≠0
  |0,.mk t b ks,outer,e,h,_=>absurd h (by show¬szL ks+1≤0;omega)
  |m+1,.mk t b ks,outer,e,hs,h=>by
   have hsz:szL ks+1≤m+1:=hs
   have hput: ∀{xs:List Int} {e:Int},putW t xs=.no e→e≠0:=fun {xs e} h=>by
     unfold putW at h
     by_cases h0:(putF t xs).2=0
     · rw[if_pos h0] at h;cases h
     · rw[if_neg h0] at h;cases h;exact h0
   have hL: ∀(ns:List Nd) (k:WK) (e:Int),(∀n∈ns,n∈ks)→writeL ns (outer+1) k=.no e→e≠0:=by
     intro ns
     induction ns with
     |nil=>intro k e _ h;rw[writeL_nil] at h;cases h
     |cons n ns ih=>
      intro k e hm h
      cases hw:writeF n (outer+1) with
      |no e'=>
       rw[writeL_no hw] at h
       cases h
       have:=szL_mem (hm n (List.mem_cons_self ..))
       exact errW_ne m n (outer+1) e (by omega) hw
      |ok b=>rw[writeL_ok hw] at h;exact ih _ e (fun n hn=>hm n (List.mem_cons_of_mem _ hn)) h
   unfold writeF at h
   by_cases ha:aloneF t b outer=0
   · rw[if_neg (by simp[ha])] at h
     by_cases hm:misF t b ks.length=true
     · rw[if_pos hm] at h;cases h;decide
     · rw[if_neg hm] at h
       by_cases hc:compB t=true
       · rw[if_pos hc] at h
         cases hw:writeL ks (outer+1) wk0 with
         |no e'=>rw[hw] at h;simp[kresF,finW] at h;subst h;exact hL ks wk0 _ (fun n hn=>hn) hw
         |ok k=>
          rw[hw] at h
          unfold kresF at h
          simp only at h
          by_cases hf:t=49∧k.falls=true
          · rw[if_pos hf] at h;simp[finW] at h;subst h;decide
          · rw[if_neg hf] at h
            unfold finW at h
            exact hput h
       · rw[if_neg hc] at h;exact hput h
   · rw[if_pos ha] at h;cases h;exact ha
end Go.Proofs.YtconbejjagcnkaaGreatDoor.ndc
