/- The document's Kids, plain and OidOf. The document's reading of names and principals, as plain functions: it is the program's. The document's TextOf; a node's two kids. -/
import Derived.Test.YtconbejjagcnkaaGreatDoorYb
import Derived.Test.YtconbejjagcnkaaGreatDoorId
import Derived.Lib.QuietBelow
import Derived.BigQuiet
import Derived.Test.YtconbejjagcnkaaGreatDoorYc
import Derived.Test.YtconbejjagcnkaaGreatDoorYg
namespace Go.Proofs.YtconbejjagcnkaaGreatDoor.nmc
open Go.RowKit Go.Proofs.YtconbejjagcnkaaGreatDoor.tlvc Go.Proofs.YtconbejjagcnkaaGreatDoor.tlvd Go.Proofs.YtconbejjagcnkaaGreatDoor.ndc Go.Proofs.YtconbejjagcnkaaGreatDoor.txc Go.Proofs.YtconbejjagcnkaaGreatDoor.txm Go.Proofs.YtconbejjagcnkaaGreatDoor.intc Go.Proofs.YtconbejjagcnkaaGreatDoor.intm
set_option linter.unusedVariables false
set_option linter.unusedSimpArgs false
def kidsB (n:Nd)(many:Int):Bool:=decide (n.tag=48) && (decide (n.body.length=0) && (decide (many<0) || decide ((n.kids.length:Int)=many)))
def plainB (n:Nd)(t:Int):Bool:=decide (n.tag=t) && decide (n.kids.length=0)
def oidOK (n:Nd):Bool:=decide ((oidF n.body).2=0) && plainB n 6
theorem box3_ {W0 W:World}(h:Below W0.heap.size W0 W){g:Nat}{a b c:Value}{T:TypeId}{fr:Nat × Nat}(hq:W0.heap[g]? =some (.cells #[a,b,c] T fr)):W.cell? ⟨g,0,none⟩=some a∧W.cell? ⟨g,1,none⟩=some b∧W.cell? ⟨g,2,none⟩=some c:=by
  have hq:=(h.block g (Array.getElem?_eq_some_iff.1 hq).1).trans hq
  exact⟨(Lib.cell_of_heap hq _).trans rfl,(Lib.cell_of_heap hq _).trans rfl,(Lib.cell_of_heap hq _).trans rfl⟩
set_option maxRecDepth 100000 in
set_option maxHeartbeats 4000000 in
theorem kids_any (B:Nat→Prop)(n:Nd)(many:Int)(h:many= -1∨many=2)(c0 c1 c2:Value)(w:World)(hn:NdC B w n c0 c1 c2):
    Calls Tryz.prog 58 #[.agg #[c0,c1,c2],.int .u8 48,.int .i64 many] w fun e w'=>e=.returned (.tuple #[if kidsB n many=true then c2 else .slice none 0 0,.bool (kidsB n many)])∧Below w.heap.size w w':=by
  obtain⟨t,b,ks⟩:=n
  obtain⟨rfl,ht,⟨A,la,ca,rfl,hA1,hA2,hA3,_⟩,K,ck,rfl,hK1,hK2,hK3⟩:=NdC.kidsL hn
  have hla:b.length=la:=hA3.1
  obtain⟨lk,hlk⟩: ∃x,ks.length=x:=⟨_,rfl⟩
  have hk:kidsB (.mk t b ks) many=(decide (t=48) && (decide (la=0) && (decide (many<0) || decide ((lk:Int)=many)))):=by rw[←hla,←hlk];rfl
  rw[hk]
  (try rw[hlk])
  obtain⟨W0,hW0⟩: ∃x,w.alloc (.cells #[.int .u8 t,.slice A la ca,.slice K lk ck] 40)=x:=⟨_,rfl⟩
  have hb0:Below w.heap.size w W0:=by rw[←hW0];exact below_new _ _
  have q0:W0.heap[w.heap.size]? =some (.cells #[.int .u8 t,.slice A la ca,.slice K lk ck] 40):=by rw[←hW0];exact heap_new_ _ _
  obtain⟨x0,x1,x2⟩:=box3_ (Below.refl _ W0) q0
  have HB:=Lib.hid hb0
  clear hb0 q0 hk hlk hla hA1 hA2 hA3 hK1 hK2 hK3 ht hn
  by_cases h48:t=48
  · subst h48
    by_cases h0:la=0
    · subst h0
      rcases h with rfl |rfl
      · skip
        go_enter Tryz.func58,Tryz.ntmps58
        go_wp2
        go_ret2
        exact⟨by first |rfl |simp[*],HB.out⟩
      · by_cases h2:lk=2
        · subst h2
          go_enter Tryz.func58,Tryz.ntmps58
          go_wp2
          go_ret2
          exact⟨by first |rfl |simp[*],HB.out⟩
        · have h2z:((lk:Int)==2)=false:=by rw[beq_eq_false_iff_ne];omega
          have h2y: ¬((lk:Int)=2):=by omega
          rw[decide_eq_false h2y]
          clear h2y h2
          go_enter Tryz.func58,Tryz.ntmps58
          go_wp2
          go_ret2
          exact⟨by first |rfl |simp[*],HB.out⟩
    · have h0z:(0:Int)< (la:Int):=by omega
      rw[decide_eq_false h0]
      go_enter Tryz.func58,Tryz.ntmps58
      go_wp2
      go_ret2
      exact⟨by first |rfl |simp[*],HB.out⟩
  · have h48z:(t==48)=false:=by rw[beq_eq_false_iff_ne];exact h48
    rw[decide_eq_false h48]
    go_enter Tryz.func58,Tryz.ntmps58
    go_wp2
    go_ret2
    exact⟨by first |rfl |simp[*],HB.out⟩
set_option maxRecDepth 100000 in
set_option maxHeartbeats 4000000 in
theorem plain_any (B:Nat→Prop)(n:Nd)(t2:Int)(c0 c1 c2:Value)(w:World)(hn:NdC B w n c0 c1 c2):
    Calls Tryz.prog 63 #[.agg #[c0,c1,c2],.int .u8 t2] w fun e w'=>e=.returned (.bool (plainB n t2))∧Below w.heap.size w w':=by
  obtain⟨t,b,ks⟩:=n
  obtain⟨rfl,ht,⟨A,la,ca,rfl,hA1,hA2,hA3,_⟩,K,ck,rfl,hK1,hK2,hK3⟩:=NdC.kidsL hn
  have hla:b.length=la:=hA3.1
  obtain⟨lk,hlk⟩: ∃x,ks.length=x:=⟨_,rfl⟩
  have hk:plainB (.mk t b ks) t2=(decide (t=t2) && decide (lk=0)):=by rw[←hlk];rfl
  rw[hk]
  (try rw[hlk])
  obtain⟨W0,hW0⟩: ∃x,w.alloc (.cells #[.int .u8 t,.slice A la ca,.slice K lk ck] 40)=x:=⟨_,rfl⟩
  have hb0:Below w.heap.size w W0:=by rw[←hW0];exact below_new _ _
  have q0:W0.heap[w.heap.size]? =some (.cells #[.int .u8 t,.slice A la ca,.slice K lk ck] 40):=by rw[←hW0];exact heap_new_ _ _
  obtain⟨x0,x1,x2⟩:=box3_ (Below.refl _ W0) q0
  have HB:=Lib.hid hb0
  clear hb0 q0 hk hlk hla hA1 hA2 hA3 hK1 hK2 hK3 ht hn
  by_cases h48:t=t2
  · subst h48
    have hz:(t==t)=true:=by rw[beq_iff_eq]
    by_cases h0:lk=0
    · subst h0
      go_enter Tryz.func63,Tryz.ntmps63
      go_wp2
      go_ret
      exact⟨by first |rfl |simp[*],HB.out⟩
    · have h0z:((lk:Int)==0)=false:=by rw[beq_eq_false_iff_ne];omega
      rw[decide_eq_false h0]
      go_enter Tryz.func63,Tryz.ntmps63
      go_wp2
      go_ret
      exact⟨by first |rfl |simp[*],HB.out⟩
  · have h48z:(t==t2)=false:=by rw[beq_eq_false_iff_ne];exact h48
    rw[decide_eq_false h48]
    go_enter Tryz.func63,Tryz.ntmps63
    go_wp2
    go_ret
    exact⟨by first |rfl |simp[*],HB.out⟩
/-- What OidOf tells. -/
def OPost (w:World)(n:Nd)(e:Ending)(w':World):Prop:=
  Below w.heap.size w w'∧∃A c,e=.returned (.tuple #[.slice A (oidF n.body).1.length c,.bool (oidOK n)])∧IHere w.heap.size A c (oidF n.body).1 w'
set_option maxRecDepth 100000 in
set_option maxHeartbeats 4000000 in
theorem oidOf_any (B:Nat→Prop)(n:Nd)(c0 c1 c2:Value)(w:World)(hn:NdC B w n c0 c1 c2):
    Calls Tryz.prog 59 #[.agg #[c0,c1,c2]] w (OPost w n):=by
  obtain⟨t,A,la,ca,K,lk,ck,rfl,rfl,rfl⟩:=hn.shape
  obtain⟨W0,hW0⟩: ∃x,w.alloc (.cells #[.int .u8 t,.slice A la ca,.slice K lk ck] 40)=x:=⟨_,rfl⟩
  have hb0:Below w.heap.size w W0:=by rw[←hW0];exact below_new _ _
  have q0:W0.heap[w.heap.size]? =some (.cells #[.int .u8 t,.slice A la ca,.slice K lk ck] 40):=by rw[←hW0];exact heap_new_ _ _
  obtain⟨x0,x1,x2⟩:=box3_ (Below.refl _ W0) q0
  have hby:la≤ca∧ca≤maxLen∧Bys w A la n.body:=by
    obtain⟨t',b,ks⟩:=n
    obtain⟨_,_,⟨A',la',ca',e,h1,h2,h3,_⟩,_⟩:=NdC.kidsL hn
    simp only[Value.slice.injEq] at e
    obtain⟨rfl,rfl,rfl⟩:=e
    exact⟨h1,h2,h3⟩
  have HO:=Lib.hid (refOID_any A la ca n.body W0 (hby.2.2.below hb0) hby.1 hby.2.1)
  have HX:=Lib.hid (fun W (hW:Below W0.heap.size W0 W)=>box3_ hW q0)
  have HP:=Lib.hid (fun W (hW:Below W0.heap.size W0 W)=>plain_any _ n 6 _ _ _ W (NdC.below (below_then hb0 hW (Nat.le_refl _)) _ _ _ _ hn))
  have HB:=Lib.hid hb0
  obtain⟨ys,hys⟩: ∃x,(oidF n.body).1=x:=⟨_,rfl⟩
  obtain⟨er,her⟩: ∃x,(oidF n.body).2=x:=⟨_,rfl⟩
  obtain⟨pb,hpb⟩: ∃x,plainB n 6=x:=⟨_,rfl⟩
  have hok:oidOK n=(decide (er=0) && pb):=by rw[←her,←hpb];rfl
  unfold OPost
  obtain⟨ok,hok2⟩: ∃x,(decide (er=0) && pb)=x:=⟨_,rfl⟩
  have HOK:=Lib.hid hok2
  rw[hok,hok2,hys]
  clear hok2
  rw[hys,her] at HO
  rw[hpb] at HP
  clear hok hys her hpb hby q0 hb0 hn
  go_enter Tryz.func59,Tryz.ntmps59
  go_wp2_with fail
  refine HO.out.mono ?_
  rintro e w1 ⟨A2,c2,rfl,hh,hb1⟩
  have HC:=Lib.hid (HP.out w1 hb1)
  have HB1:=Lib.hid (below_then HB.out hb1 (Nat.le_refl _))
  have HW:=Lib.hid hb1.size
  have HH:=Lib.hid hh
  have HZ:=Lib.hid (below_then HB.out (Below.refl _ W0) (Nat.le_refl _)).size
  clear x0 x1 x2
  obtain⟨x0,x1,x2⟩:=HX.out w1 hb1
  clear hb1 hh HO HP
  by_cases h0:er=0
  · subst h0
    obtain rfl:pb=ok:=by rw[←HOK.out];simp
    go_wp2_with fail
    refine HC.out.mono ?_
    rintro e w2 ⟨rfl,hb2⟩
    have HB2:=Lib.hid (And.intro (below_then HB1.out hb2 (Nat.le_refl _)) (show IHere w.heap.size A2 c2 ys w2 from⟨HH.out.1.below hb2,HH.out.2.1,HH.out.2.2.1,fun b off e=>⟨Nat.le_trans HZ.out (HH.out.2.2.2 b off e).1,(HH.out.2.2.2 b off e).2⟩⟩))
    clear hb2 HC HB1 HH x0 x1 x2
    go_wp2
    go_ret2
    exact⟨HB2.out.1,_,_,by first |rfl |simp,HB2.out.2⟩
  · have hz:(er==0)=false:=by rw[beq_eq_false_iff_ne];exact h0
    obtain rfl:false=ok:=by rw[←HOK.out,decide_eq_false h0];rfl
    have HB2:=Lib.hid (And.intro HB1.out (show IHere w.heap.size A2 c2 ys w1 from⟨HH.out.1,HH.out.2.1,HH.out.2.2.1,fun b off e=>⟨Nat.le_trans HZ.out (HH.out.2.2.2 b off e).1,(HH.out.2.2.2 b off e).2⟩⟩))
    clear h0 HC HB1 HH
    go_wp2
    go_ret2
    exact⟨HB2.out.1,_,_,by first |rfl |simp,HB2.out.2⟩
end Go.Proofs.YtconbejjagcnkaaGreatDoor.nmc
namespace Go.Proofs.YtconbejjagcnkaaGreatDoor.nmc
open Go.RowKit Go.Proofs.YtconbejjagcnkaaGreatDoor.tlvc Go.Proofs.YtconbejjagcnkaaGreatDoor.tlvd Go.Proofs.YtconbejjagcnkaaGreatDoor.ndc Go.Proofs.YtconbejjagcnkaaGreatDoor.txc Go.Proofs.YtconbejjagcnkaaGreatDoor.txm Go.Proofs.YtconbejjagcnkaaGreatDoor.intc Go.Proofs.YtconbejjagcnkaaGreatDoor.intm
set_option linter.unusedVariables false
set_option linter.unusedSimpArgs false
def textOK (t:Int)(n:Nd):Bool:=rightD t n.body && plainB n t
def kOK (k:Nd):Bool:=kidsB k 2 && (oidOK (kidF k 0) && textOK 12 (kidF k 1))
def rgN (n:Nd):Option (List At):=if kidsB n (-1)=true∧n.kids.all kOK=true∧rightN (n.kids.map toldA)=true then some (n.kids.map toldA) else none
def Fit2 (n:Nd):Prop:=∀k∈n.kids,Fit k.body∧∀j∈k.kids,Fit j.body
theorem nd_fit {B:Nat→Prop}{w:World}{n:Nd}{c0 c1 c2:Value}(h:NdC B w n c0 c1 c2):Fit n.body:=by
  obtain⟨t,b,ks⟩:=n
  obtain⟨_,_,⟨A,la,ca,_,_,_,h3,_⟩,_⟩:=NdC.kidsL h
  exact h3.2.1
theorem nd_kid {B:Nat→Prop}{w:World}{n:Nd}{c0 c1 c2:Value}(h:NdC B w n c0 c1 c2){k:Nd}(hk:k∈n.kids): ∃d0 d1 d2,NdC B w k d0 d1 d2:=by
  obtain⟨t,b,ks⟩:=n
  obtain⟨_,_,_,K,ck,_,_,_,hL⟩:=NdC.kidsL h
  obtain⟨i,hi,rfl⟩:=List.getElem_of_mem (show k∈ks from hk)
  obtain⟨g,off,cs,_,_,_,d0,d1,d2,_,h⟩:=hL.at i hi
  exact⟨d0,d1,d2,h⟩
theorem fit2_of {B:Nat→Prop}{w:World}{n:Nd}{c0 c1 c2:Value}(h:NdC B w n c0 c1 c2):Fit2 n:=fun k hk=>by
  obtain⟨d0,d1,d2,h1⟩:=nd_kid h hk
  refine⟨nd_fit h1,fun j hj=>?_⟩
  obtain⟨e0,e1,e2,h2⟩:=nd_kid h1 hj
  exact nd_fit h2
theorem plainB_iff (n:Nd)(t:Int):plainB n t=true↔n=.mk t n.body []:=by
  unfold plainB
  rw[Bool.and_eq_true,decide_eq_true_eq,decide_eq_true_eq,List.length_eq_zero_iff]
  obtain⟨t',b,ks⟩:=n
  simp only[Nd.tag,Nd.kids,Nd.body,Nd.mk.injEq,true_and]
theorem kidsB_iff (n:Nd)(many:Int):kidsB n many=true↔n=.mk 48 [] n.kids∧(many<0∨(n.kids.length:Int)=many):=by
  unfold kidsB
  rw[Bool.and_eq_true,Bool.and_eq_true,Bool.or_eq_true,decide_eq_true_eq,decide_eq_true_eq,decide_eq_true_eq,decide_eq_true_eq,List.length_eq_zero_iff]
  obtain⟨t',b,ks⟩:=n
  simp only[Nd.tag,Nd.kids,Nd.body,Nd.mk.injEq,and_true,and_assoc]
theorem attr_back {k:Nd}(h:kOK k=true)(hf: ∀j∈k.kids,Fit j.body):attrN (toldA k)=k:=by
  unfold kOK oidOK textOK at h
  simp only[Bool.and_eq_true,decide_eq_true_eq] at h
  obtain⟨h1,⟨h2,h3⟩,h4,h5⟩:=h
  obtain⟨e1,h1⟩:=(kidsB_iff _ _).1 h1
  have h1:k.kids.length=2:=by omega
  obtain⟨t,b,ks⟩:=k
  match ks,h1 with
  | [o,x],_=>
    have e3:=(plainB_iff _ _).1 h3
    have e5:=(plainB_iff _ _).1 h5
    have ko:kidF (.mk t b [o,x]) 0=o:=rfl
    have kx:kidF (.mk t b [o,x]) 1=x:=rfl
    rw[ko] at h2 e3
    rw[kx] at e5
    have hp:=(oidF_ok (xs:=o.body) (l:=(oidF o.body).1) (Prod.ext rfl h2)).2
    have hb:=bytesI_str (hf x (by simp[Nd.kids]))
    rw[e1]
    unfold attrN toldA
    have ko':kidF (.mk 48 [] (Nd.mk t b [o,x]).kids) 0=o:=rfl
    have kx':kidF (.mk 48 [] (Nd.mk t b [o,x]).kids) 1=x:=rfl
    rw[ko',kx',hp,hb,←e3,←e5]
    rfl
theorem attrOK_iff (a:At):attrOK a=true↔objB a.oid=true∧a.text.size≤64∧utfS a.text=true:=by
  unfold attrOK
  simp only[Bool.and_eq_true,decide_eq_true_eq,and_assoc]
theorem kOK_attr {a:At}(h:attrOK a=true):kOK (attrN a)=true:=by
  obtain⟨h1,h2,h3⟩:=(attrOK_iff a).1 h
  unfold kOK oidOK textOK
  have e1:kidF (attrN a) 0=.mk 6 (encO a.oid) []:=rfl
  have e2:kidF (attrN a) 1=.mk 12 (bytesI a.text) []:=rfl
  have e3:rightD 12 (bytesI a.text)=utfB (bytesI a.text):=rfl
  have e4:decide ((oidF (encO a.oid)).2=0)=true:=by rw[decide_eq_true_eq,oidF_enc h1]
  rw[e1,e2]
  show(kidsB (attrN a) 2 && ((decide ((oidF (encO a.oid)).2=0) && plainB (.mk 6 (encO a.oid) []) 6) && (rightD 12 (bytesI a.text) && plainB (.mk 12 (bytesI a.text) []) 12)))=true
  rw[e4,e3,utf_bytesI,h3]
  rfl
theorem rightN_iff (l:List At):rightN l=true↔l.length≤8∧∀a∈l,attrOK a=true:=by
  unfold rightN
  rw[Bool.and_eq_true,decide_eq_true_eq,List.all_eq_true]
theorem told_all {l:List At}(h:rightN l=true):(nameN l).kids.map toldA=l:=by
  have h2:=told_name h
  unfold toldN at h2
  rwa[List.take_of_length_le (by show(l.map attrN).length≤8;rw[List.length_map];exact((rightN_iff l).1 h).1)] at h2
theorem rg_name {l:List At}(h:rightN l=true):rgN (nameN l)=some l:=by
  unfold rgN
  rw[told_all h,if_pos]
  refine⟨rfl,?_,h⟩
  rw[List.all_eq_true]
  intro k hk
  obtain⟨a,ha,rfl⟩:=List.mem_map.1 (show k∈l.map attrN from hk)
  exact kOK_attr (((rightN_iff l).1 h).2 a ha)
theorem getN_rg {n:Nd}(hf:Fit2 n):getN n=rgN n:=by
  cases hg:getN n with
  |some l=>
   obtain⟨h1,h2⟩:=getN_some hg
   rw[←h2,rg_name h1]
  |none=>
   unfold rgN
   rw[if_neg]
   rintro⟨k1,k2,k3⟩
   obtain⟨e1,_⟩:=(kidsB_iff _ _).1 k1
   have h8:=((rightN_iff _).1 k3).1
   rw[List.length_map] at h8
   have et:toldN n=n.kids.map toldA:=by unfold toldN;rw[List.take_of_length_le h8]
   have en:nameN (n.kids.map toldA)=n:=by
     unfold nameN
     rw[List.map_map]
     have:n.kids.map (attrN∘toldA)=n.kids:=by
       conv=>rhs;rw[←List.map_id n.kids]
       apply List.map_congr_left
       intro k hk
       exact attr_back (List.all_eq_true.1 k2 k hk) (hf k hk).2
     rw[this]
     exact e1.symm
   unfold getN at hg
   rw[et,en,if_pos ⟨k3,sameN_refl _⟩] at hg
   cases hg
end Go.Proofs.YtconbejjagcnkaaGreatDoor.nmc
namespace Go.Proofs.YtconbejjagcnkaaGreatDoor.nmc
open Go.RowKit Go.Proofs.YtconbejjagcnkaaGreatDoor.tlvc Go.Proofs.YtconbejjagcnkaaGreatDoor.tlvd Go.Proofs.YtconbejjagcnkaaGreatDoor.ndc Go.Proofs.YtconbejjagcnkaaGreatDoor.txc Go.Proofs.YtconbejjagcnkaaGreatDoor.txm Go.Proofs.YtconbejjagcnkaaGreatDoor.intc Go.Proofs.YtconbejjagcnkaaGreatDoor.intm
set_option linter.unusedVariables false
set_option linter.unusedSimpArgs false
theorem partsL_true_ {most:Int}: ∀(ks:List Nd) (k:Int),(∀n∈ks,∀m,0≤m→(partsF n m≤m→partsF n m=szN n)∧partsF n m≤m+1∧1≤partsF n m)→1≤k→k≤most+1→partsL ks most k≤most→partsL ks most k=k+szL ks
  | [],k,_,_,_,_=>by unfold partsL szL;simp
  |n::ns,k,h,h1,h2,h3=>by
   unfold partsL at h3⊢
   unfold szL
   split
   · rename_i hk
     rw[if_pos hk] at h3
     obtain⟨a,b,c⟩:=h n List.mem_cons_self (most - k) (by omega)
     have hlt:k+partsF n (most - k)≤most:=by
       rcases Int.lt_or_le most (k+partsF n (most - k)) with hgt |hle
       · have hle2:k+partsF n (most - k)=most+1:=by omega
         cases ns with
         |nil=>unfold partsL at h3;omega
         |cons x xs=>unfold partsL at h3;rw[if_neg (by omega)] at h3;omega
       · exact hle
     have e:=a (by omega)
     rw[partsL_true_ ns _ (fun m hm=>h m (List.mem_cons_of_mem _ hm)) (by omega) (by omega) h3,e]
     omega
   · rename_i hk
     rw[if_neg hk] at h3
     omega
theorem partsF_true_: ∀(N:Nat) (n:Nd),szN n≤N→∀m,0≤m→partsF n m≤m→partsF n m=szN n
  |0,.mk _ _ ks,h,_,_,_=>by unfold szN at h;omega
  |N+1,.mk _ _ ks,h,m,hm,hle=>by
   unfold szN at h
   unfold partsF at hle⊢
   unfold szN
   rw[partsL_true_ ks 1 (fun k hk m' hm'=>⟨fun hle'=>partsF_true_ N k (by have:=szL_mem hk;omega) m' hm' hle',(partsF_bd N k (by have:=szL_mem hk;omega) m' hm').2,(partsF_bd N k (by have:=szL_mem hk;omega) m' hm').1⟩) (by omega) (by omega) hle]
   omega
theorem sz_kids: ∀(ks:List Nd),ks.length≤szL ks
  | []=>Nat.zero_le _
  |k::ks=>by
   have h:=sz_kids ks
   have h1:1≤szN k:=by obtain⟨t,b,m⟩:=k;unfold szN;omega
   rw[List.length_cons]
   unfold szL
   omega
theorem parts_kids {n:Nd}(h:partsF n 5000≤5000):n.kids.length≤5000∧∀k∈n.kids,k.kids.length≤5000:=by
  have ht:=partsF_true_ _ n (Nat.le_refl _) 5000 (by omega) h
  have hs:szN n≤5000:=by omega
  obtain⟨t,b,ks⟩:=n
  unfold szN at hs
  have h1:=sz_kids ks
  refine⟨by show ks.length≤5000;omega,fun k hk=>?_⟩
  have h2:=szL_mem (show k∈ks from hk)
  obtain⟨t',b',ms⟩:=k
  unfold szN at h2
  have h3:=sz_kids ms
  show ms.length≤5000
  omega
theorem two_cells {B:Nat→Prop}{w:World}{k:Nd}{c0 c1:Value}{K:Option Addr}{m1 n1:Nat}(h:NdC B w k c0 c1 (.slice K m1 n1))(h2:kidsB k 2=true):
    m1=2∧∃g off t A l c K' m d t' A' l' c' K'' m' d',K=some ⟨g,off,none⟩∧2≤n1∧n1≤maxLen∧
      w.cell? ⟨g,off,none⟩=some (.int .u8 t)∧w.cell? ⟨g,off+1,none⟩=some (.slice A l c)∧w.cell? ⟨g,off+2,none⟩=some (.slice K' m d)∧NdC B w (kidF k 0) (.int .u8 t) (.slice A l c) (.slice K' m d)∧
      w.cell? ⟨g,off+3,none⟩=some (.int .u8 t')∧w.cell? ⟨g,off+4,none⟩=some (.slice A' l' c')∧w.cell? ⟨g,off+5,none⟩=some (.slice K'' m' d')∧NdC B w (kidF k 1) (.int .u8 t') (.slice A' l' c') (.slice K'' m' d'):=by
  obtain⟨_,h3⟩:=(kidsB_iff _ _).1 h2
  have h3:k.kids.length=2:=by omega
  obtain⟨t,b,ks⟩:=k
  obtain⟨_,_,_,K',ck,e,h4,h5,hL⟩:=NdC.kidsL h
  simp only[Value.slice.injEq] at e
  obtain⟨rfl,rfl,rfl⟩:=e
  match ks,h3,h4,hL with
  | [x,y],_,h4,hL=>
    refine⟨rfl,?_⟩
    obtain⟨g,off,t,A1,l1,k1,K1,m1,n1,rfl,e0,e1,e2,hn1⟩:=nd_cells hL (Below.refl _ w) 0 (by simp)
    obtain⟨g',off',t',A2,l2,k2,K2,m2,n2,e,f0,f1,f2,hn2⟩:=nd_cells hL (Below.refl _ w) 1 (by simp)
    cases e
    exact⟨g,off,t,A1,l1,k1,K1,m1,n1,t',A2,l2,k2,K2,m2,n2,rfl,h4,h5,e0,e1,e2,hn1,f0,f1,f2,hn2⟩
set_option maxRecDepth 100000 in
set_option maxHeartbeats 4000000 in
theorem textOf_any (B:Nat→Prop)(n:Nd)(t2:Int)(c0 c1 c2:Value)(w:World)(hn:NdC B w n c0 c1 c2)(hT:Tabs w):
    Calls Tryz.prog 60 #[.agg #[c0,c1,c2],.int .u8 t2] w fun e w'=>e=.returned (.tuple #[.string (strOfNums n.body),.bool (textOK t2 n)])∧Below w.heap.size w w':=by
  obtain⟨t,A,la,ca,K,lk,ck,rfl,rfl,rfl⟩:=hn.shape
  obtain⟨h1,h2,h3,h4⟩:=body_size hn
  obtain⟨W0,hW0⟩: ∃x,w.alloc (.cells #[.int .u8 t,.slice A la ca,.slice K lk ck] 40)=x:=⟨_,rfl⟩
  have hb0:Below w.heap.size w W0:=by rw[←hW0];exact below_new _ _
  have q0:W0.heap[w.heap.size]? =some (.cells #[.int .u8 t,.slice A la ca,.slice K lk ck] 40):=by rw[←hW0];exact heap_new_ _ _
  obtain⟨x0,x1,x2⟩:=box3_ (Below.refl _ W0) q0
  have HO:=Lib.hid (refRight_any t2 A la ca n.body W0 (h3.below hb0) h1 h2 (hT.below hb0))
  have HX:=Lib.hid (fun W (hW:Below W0.heap.size W0 W)=>box3_ hW q0)
  have HP:=Lib.hid (fun W (hW:Below W0.heap.size W0 W)=>plain_any _ n t2 _ _ _ W (NdC.below (below_then hb0 hW (Nat.le_refl _)) _ _ _ _ hn))
  have HV:=Lib.hid (fun W (hW:Below W0.heap.size W0 W)=>intc.str_now (h3.below (below_then hb0 hW (Nat.le_refl _))) ca)
  have HB:=Lib.hid hb0
  obtain⟨S,hS⟩: ∃x,strOfNums n.body=x:=⟨_,rfl⟩
  obtain⟨rb,hrb⟩: ∃x,rightD t2 n.body=x:=⟨_,rfl⟩
  obtain⟨pb,hpb⟩: ∃x,plainB n t2=x:=⟨_,rfl⟩
  have hok:textOK t2 n=(rb && pb):=by rw[←hrb,←hpb];rfl
  rw[hok,hS]
  rw[hrb] at HO
  rw[hpb] at HP
  rw[hS] at HV
  clear hok hrb hpb hS q0 hb0 hn h1 h2 h3 h4
  go_enter Tryz.func60,Tryz.ntmps60
  go_wp2_with fail
  refine HO.out.mono ?_
  rintro e w1 ⟨rfl,hb1⟩
  have HW:=Lib.hid hb1
  clear x0 x1 x2 HO hb1
  have x0:=fun(d:Nat) (os:Array Obj)=>(HX.out _ (below_then HW.out (below_regrown w1 d os) (Nat.le_refl _))).1
  have x1:=fun(d:Nat) (os:Array Obj)=>(HX.out _ (below_then HW.out (below_regrown w1 d os) (Nat.le_refl _))).2.1
  have x2:=fun(d:Nat) (os:Array Obj)=>(HX.out _ (below_then HW.out (below_regrown w1 d os) (Nat.le_refl _))).2.2
  have hv:=fun(d:Nat) (os:Array Obj)=>HV.out _ (below_then HW.out (below_regrown w1 d os) (Nat.le_refl _))
  have HC:=Lib.hid (fun(d:Nat) (os:Array Obj)=>HP.out _ (below_then HW.out (below_regrown w1 d os) (Nat.le_refl _)))
  have HF:=Lib.hid (fun(d:Nat) (os:Array Obj)=>below_then HB.out (below_then HW.out (below_regrown w1 d os) (Nat.le_refl _)) (Nat.le_refl _))
  clear HX HV HP HB HW
  cases rb with
  |false=>
   go_wp2_with fail
   try dsimp only
   refine wp_region_quiet_below (by kernel_rfl) (by kernel_rfl) ?_
   repeat (go_big_quiet_step (fail))
   refine wpQuiet_nil ?_
   intro _ hw'
   obtain⟨⟨nq,osq⟩,hw''⟩:=hw'
   subst hw''
   have HE:=Lib.hid (HF.out nq osq)
   clear x0 x1 x2 hv HC HF
   go_wp2
   go_ret2
   exact⟨rfl,HE.out⟩
  |true=>
   go_wp2_with fail
   try dsimp only
   refine wp_region_quiet_below (by kernel_rfl) (by kernel_rfl) ?_
   repeat (go_big_quiet_step ((go_at_call 63;refine Calls.regrown_of (HC.out _ _))))
   refine wpQuiet_nil ?_
   intro _ hw'
   obtain⟨⟨nq,osq⟩,hw''⟩:=hw'
   subst hw''
   have HE:=Lib.hid (HF.out nq osq)
   clear x0 x1 x2 hv HC HF
   go_wp2
   go_ret2
   exact⟨rfl,HE.out⟩
end Go.Proofs.YtconbejjagcnkaaGreatDoor.nmc
