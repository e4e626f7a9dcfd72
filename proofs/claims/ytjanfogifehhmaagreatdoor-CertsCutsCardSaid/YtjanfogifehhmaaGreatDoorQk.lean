/- What is signed stands in a certificate's bytes; a certificate's bytes, cut, or with more behind: plain. -/
import Derived.Test.YtjanfogifehhmaaGreatDoorQe
set_option maxRecDepth 100000
set_option maxHeartbeats 1600000
set_option linter.unusedVariables false
set_option linter.unusedSimpArgs false
namespace Go.Proofs.YtjanfogifehhmaaGreatDoor.nmc
open Go.RowKit tlvc tlvd ndc txc txm intc intm vtc
theorem writeL_outer {o o':Nat}: ∀(ks:List Nd) (hk: ∀n∈ks,∀b b',writeF n o=.ok b→writeF n o'=.ok b'→b=b') (k k1 k2:WK),writeL ks o k=.ok k1→writeL ks o' k=.ok k2→k1=k2
 | [],_,k,k1,k2,h,h'=>by rw[writeL_nil] at h h';cases h;cases h';rfl
 |n::ks,hk,k,k1,k2,h,h'=>by
  cases hb:writeF n o with
  |no e=>rw[writeL_no hb] at h;cases h
  |ok b=>
   cases hb':writeF n o' with
   |no e=>rw[writeL_no hb'] at h';cases h'
   |ok b'=>
    rw[writeL_ok hb] at h
    rw[writeL_ok hb'] at h'
    obtain rfl:=hk n (List.mem_cons_self ..) b b' hb hb'
    exact writeL_outer ks (fun m hm=>hk m (List.mem_cons_of_mem _ hm)) _ k1 k2 h h'
theorem writeF_outer: ∀(m:Nat) (n:Nd) (o o':Nat) (b b':List Int),szN n≤m→writeF n o=.ok b→writeF n o'=.ok b'→b=b'
 |0,.mk t b0 ks,o,o',b,b',h,_,_=>absurd h (by show¬szL ks+1≤0;omega)
 |m+1,.mk t b0 ks,o,o',b,b',hs,h,h'=>by
  have hsz:szL ks+1≤m+1:=hs
  rcases(writeF_ok h).2.2 with ⟨hc,_,_,rfl⟩ | ⟨hc,_,k,hw,_,_,rfl⟩
  ·rcases(writeF_ok h').2.2 with ⟨_,_,_,rfl⟩ | ⟨hc',_⟩
   ·rfl
   ·rw[hc] at hc';cases hc'
  ·rcases(writeF_ok h').2.2 with ⟨hc',_⟩ | ⟨_,_,k',hw',_,_,rfl⟩
   ·rw[hc] at hc';cases hc'
   ·rw[writeL_outer ks (fun n hn b b' h1 h2=>writeF_outer m n (o+1) (o'+1) b b' (by have:=szL_mem hn;omega) h1 h2) wk0 k k' hw hw']
theorem body_in {n z:Nd}{A b:List Int}(hA:writeF n 0=.ok A)(h:writeF (.mk 48 [] [n,z]) 0=.ok b): ∃i:Nat,i+A.length≤b.length∧(b.drop i).take A.length=A:=by
 rcases(writeF_ok h).2.2 with ⟨hc,_⟩ | ⟨_,_,k,hw,_,_,rfl⟩
 ·exact absurd hc (by decide)
 cases hn:writeF n (0+1) with
 |no e=>rw[writeL_no hn] at hw;cases hw
 |ok A1=>
  obtain rfl:=writeF_outer _ n 0 (0+1) A A1 (lr_ _) hA hn
  rw[writeL_ok hn] at hw
  cases hz:writeF z (0+1) with
  |no e=>rw[writeL_no hz] at hw;cases hw
  |ok S=>
   rw[writeL_ok hz,writeL_nil] at hw
   cases hw
   have h1:(wk0.add A).body=A:=by unfold WK.add wk0;rfl
   have h2: ∃r,((wk0.add A).add S).body=A++r:=by
    unfold WK.add
    show∃r,(if (wk0.add A).body.length≤65535 then (wk0.add A).body++S else (wk0.add A).body)=A++r
    rw[h1]
    split
    ·exact⟨S,rfl⟩
    ·exact⟨[],(List.append_nil _).symm⟩
   obtain⟨r,hr⟩:=h2
   rw[hr]
   obtain⟨hd,h1,_⟩:=put_split 48 (A++r)
   rw[h1]
   refine⟨hd.length,by simp only[List.length_append];omega,?_⟩
   rw[List.drop_left,List.take_left]
theorem headF_cut (t:Int)(xs:List Int)(h:endlessB t=false)(hn:xs.length≤65535)(k:Nat)(hk:k< (putBytes t xs).length):(headF ((putBytes t xs).take k)).1≠0:=by
 have h': ¬endlessB t=true:=by simp[h]
 have hl:=put_len t xs
 rcases put_shape t xs hn with ⟨e,h1⟩ | ⟨e,h1,h2⟩ | ⟨e,h1⟩
 ·rw[e] at hl hk⊢
  simp only[List.length_cons] at hl hk
  match k with
  |0=>show(headF []).1≠0;decide
  |1=>show(headF [t]).1≠0;rw[headF_one,if_neg h'];decide
  |k+2=>
   rw[List.take_succ_cons,List.take_succ_cons,headF_s t _ _ h' (by omega),if_pos (by rw[List.length_take];omega)]
   decide
 ·rw[e] at hl hk⊢
  simp only[List.length_cons] at hl hk
  match k with
  |0=>show(headF []).1≠0;decide
  |1=>show(headF [t]).1≠0;rw[headF_one,if_neg h'];decide
  |2=>show(headF [t,129]).1≠0;rw[headF_m0 t h'];decide
  |k+3=>
   rw[List.take_succ_cons,List.take_succ_cons,List.take_succ_cons,headF_m t _ _ h',if_neg (by omega),if_pos (by rw[List.length_take];omega)]
   decide
 ·rw[e] at hl hk⊢
  simp only[List.length_cons] at hl hk
  match k with
  |0=>show(headF []).1≠0;decide
  |1=>show(headF [t]).1≠0;rw[headF_one,if_neg h'];decide
  |2=>show(headF [t,130]).1≠0;rw[headF_l0 t h'];decide
  |3=>show(headF [t,130,_]).1≠0;rw[headF_l1 t _ h'];decide
  |k+4=>
   rw[List.take_succ_cons,List.take_succ_cons,List.take_succ_cons,List.take_succ_cons,headF_l t _ _ _ h',if_neg (by omega),if_pos (by rw[List.length_take];omega)]
   decide
theorem read_cut {n:Nd}{b:List Int}(h:writeF n 0=.ok b)(k:Nat)(hk:k<b.length): ∃a e,readAllF (b.take k)=.bad a e:=by
 obtain⟨t,b0,ks⟩:=n
 have key: ∃xs,b=putBytes t xs∧endlessB t=false∧xs.length≤65535:=by
  obtain⟨_,he,hh⟩:=writeF_ok h
  rcases hh with ⟨_,_,h1,rfl⟩ | ⟨_,_,k,_,_,h1,rfl⟩
  ·exact⟨_,rfl,he,h1⟩
  ·exact⟨_,rfl,he,h1⟩
 obtain⟨xs,rfl,he,hl⟩:=key
 have hh:=headF_cut t xs he hl k hk
 have hr:readF 33 0 ((putBytes t xs).take k) 0=.bad 0 (headF (((putBytes t xs).take k).drop 0)).1:=by
  conv=>lhs;unfold readF
  simp only
  rw[List.drop_zero,if_pos hh]
  rfl
 unfold readAllF
 rw[hr]
 exact⟨_,_,rfl⟩
theorem read_more {n:Nd}{b more:List Int}(h:writeF n 0=.ok b)(hm:0<more.length): ∃a e,readAllF (b++more)=.bad a e:=by
 have hr:=read_back _ n 0 32 (lr_ _) rfl b h [] more
 simp only[List.nil_append,List.length_nil,Nat.zero_add] at hr
 unfold readAllF
 rw[hr]
 simp only
 rw[if_pos (by rw[List.length_append];omega)]
 exact⟨_,_,rfl⟩
end Go.Proofs.YtjanfogifehhmaaGreatDoor.nmc
