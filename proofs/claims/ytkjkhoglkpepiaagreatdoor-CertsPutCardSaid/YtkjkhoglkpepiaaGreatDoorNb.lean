/- What may be a value alone: the program's answer. What is written of a node, and what is read of bytes: as fun -/
import Derived.Test.YtkjkhoglkpepiaaGreatDoorNa
import Derived.Test.YtkjkhoglkpepiaaGreatDoorIb
import Derived.Test.YtkjkhoglkpepiaaGreatDoorIc
import Derived.Test.YtkjkhoglkpepiaaGreatDoorXc
import Derived.Test.YtkjkhoglkpepiaaGreatDoorXb
import Derived.Test.YtkjkhoglkpepiaaGreatDoorKa
import Derived.Test.YtkjkhoglkpepiaaGreatDoorLb
import Derived.Deep.LoopGhost
import Derived.Deep.RegionLaw
import Derived.WalkLawsBesides
import Derived.Test.YtkjkhoglkpepiaaGreatDoorIa
import Derived.Lib.Builder
set_option maxRecDepth 100000
set_option maxHeartbeats 8000000
set_option linter.unusedVariables false
set_option linter.unusedSimpArgs false
namespace Go.Proofs.YtkjkhoglkpepiaaGreatDoor.ndc
open Go.RowKit tlvc txc txm intc intm
def mayF (t:Int)(xs:List Int):Bool:=
 if t=4∨t=48∨t=49 then true
 else if t=5 then decide (xs.length=0)
 else if t=3 then bitsB xs
 else if t=12∨t=19∨t=22∨t=27 then rightD t xs
 else if t=1 then decide ((boolF xs).2=0)
 else if t=2 then decide ((intF xs).2=0)
 else if t=6 then decide ((oidF xs).2=0)
 else if t=23∨t=24 then decide (timeE t xs=0)
 else decide (64≤t)
def aloneF (t:Int)(xs:List Int)(outer:Nat):Int:=
 if 32≤outer then 41 else if t%32=31 then 11 else if mayF t xs=true then 0 else 43
theorem belowD {B:Nat}{a w:World}(h:Below B a w): ∀q,Below B a (w.drewN q)
 |0=>h
 |q+1=>(belowD h q).drew
theorem may_any (t:Int)(A:Option Addr)(n c:Nat)(xs:List Int)(w:World)(ht:0≤t∧t≤255)(hx:Bys w A n xs)(hc:n≤c)(hm:c≤maxLen)(hT:Tabs w):
 Calls Tryz.prog 142 #[.int .u8 t,.slice A n c] w fun e w'=>e=.returned (.bool (mayF t xs))∧Below w.heap.size w w':=by
 have hn:n≤maxLen:=Nat.le_trans hc hm
 have hm9:c≤9223372036854775807:=by unfold maxLen at hm;omega
 by_cases h4:t=4
 ·subst h4
  rw[show mayF 4 xs=true from rfl]
  go_enter Tryz.func142,Tryz.ntmps142
  go_wp2
  go_ret
  exact⟨rfl,br_ _ _⟩
 by_cases h48:t=48
 ·subst h48
  rw[show mayF 48 xs=true from rfl]
  go_enter Tryz.func142,Tryz.ntmps142
  go_wp2
  go_ret
  exact⟨rfl,br_ _ _⟩
 by_cases h49:t=49
 ·subst h49
  rw[show mayF 49 xs=true from rfl]
  go_enter Tryz.func142,Tryz.ntmps142
  go_wp2
  go_ret
  exact⟨rfl,br_ _ _⟩
 by_cases h5:t=5
 ·subst h5
  rw[show mayF 5 xs=decide (xs.length=0) from rfl,hx.1]
  go_enter Tryz.func142,Tryz.ntmps142
  go_wp2
  go_ret
  exact⟨ret_b (by first |rfl | (rw[Bool.eq_iff_iff];simp)),br_ _ _⟩
 by_cases h3:t=3
 ·subst h3
  rw[show mayF 3 xs=bitsB xs from rfl]
  have hb:=bitsMay_any A n c xs w hx hn
  obtain⟨k,hk⟩:=nm_ (bitsB xs)
  rw[hk] at hb⊢
  have HB:=hd_ hb
  clear hb hk
  go_enter Tryz.func142,Tryz.ntmps142
  go_wp2_with fail
  refine HB.out.mono ?_
  rintro e w' ⟨rfl,q,rfl⟩
  go_wp2
  go_ret
  exact⟨rfl,belowD (br_ _ _) q⟩
 by_cases hr:t=12∨t=19∨t=22∨t=27
 ·have e:mayF t xs=rightD t xs:=by rcases hr with rfl |rfl |rfl |rfl<;>rfl
  rw[e]
  have hb:=right_all t A n c xs w hx hn hT
  obtain⟨k,hk⟩:=nm_ (rightD t xs)
  rw[hk] at hb⊢
  have HB:=hd_ hb
  clear hb hk e h4 h48 h49 h5 h3
  rcases hr with rfl |rfl |rfl |rfl
  all_goals
   go_enter Tryz.func142,Tryz.ntmps142
   go_wp2_with fail
   refine HB.out.mono ?_
   rintro e w' ⟨rfl,hb⟩
   go_wp2
   go_ret
   exact⟨rfl,hb⟩
 by_cases h1:t=1
 ·subst h1
  rw[show mayF 1 xs=decide ((boolF xs).2=0) from rfl]
  have hb:=bool_any A n c xs w hx
  unfold Told at hb
  obtain⟨k,hk⟩:=nm_ (boolF xs)
  rw[hk] at hb⊢
  obtain⟨k1,k2⟩:=k
  have HB:=hd_ hb
  clear hb hk
  go_enter Tryz.func142,Tryz.ntmps142
  go_wp2_with fail
  refine HB.out.mono ?_
  rintro e w' ⟨rfl,hb⟩
  go_wp2
  go_ret
  exact⟨ret_b (by first |rfl | (rw[Bool.eq_iff_iff];simp)),hb⟩
 by_cases h2:t=2
 ·subst h2
  rw[show mayF 2 xs=decide ((intF xs).2=0) from rfl]
  have hb:=int_any A n c xs w hx hc hm
  unfold Told at hb
  obtain⟨k,hk⟩:=nm_ (intF xs)
  rw[hk] at hb⊢
  obtain⟨k1,k2⟩:=k
  have HB:=hd_ hb
  clear hb hk
  go_enter Tryz.func142,Tryz.ntmps142
  go_wp2_with fail
  refine HB.out.mono ?_
  rintro e w' ⟨rfl,hb⟩
  go_wp2
  go_ret
  exact⟨ret_b (by first |rfl | (rw[Bool.eq_iff_iff];simp)),hb⟩
 by_cases h6:t=6
 ·subst h6
  rw[show mayF 6 xs=decide ((oidF xs).2=0) from rfl]
  have hb:=oid_any A n c xs w hx hc hm
  unfold IOMade at hb
  obtain⟨k,hk⟩:=nm_ (oidF xs)
  rw[hk] at hb⊢
  obtain⟨k1,k2⟩:=k
  have HB:=hd_ hb
  clear hb hk
  go_enter Tryz.func142,Tryz.ntmps142
  go_wp2_with fail
  refine HB.out.mono ?_
  rintro e w' ⟨A2,c2,rfl,_,hb⟩
  go_wp2
  go_ret
  exact⟨ret_b (by first |rfl | (rw[Bool.eq_iff_iff];simp)),hb⟩
 by_cases htm:t=23∨t=24
 ·have e:mayF t xs=decide (timeE t xs=0):=by rcases htm with rfl |rfl<;>rfl
  rw[e]
  have hb:=Time_any t A n c xs w hx hc hm9
  obtain⟨k,hk⟩:=nm_ (timeE t xs)
  obtain⟨j,hj⟩:=nm_ (timeN t xs)
  rw[hk] at hb⊢
  rw[hj] at hb
  have HB:=hd_ hb
  clear hb hk hj e h4 h48 h49 h5 h3 h1 h2 h6
  rcases htm with rfl |rfl
  all_goals
   go_enter Tryz.func142,Tryz.ntmps142
   go_wp2_with fail
   refine HB.out.mono ?_
   rintro e w' ⟨rfl,hb⟩
   go_wp2
   go_ret
   exact⟨ret_b (by first |rfl | (rw[Bool.eq_iff_iff];simp)),hb⟩
 have e:mayF t xs=decide (64≤t):=by
  unfold mayF
  rw[if_neg (by rintro(h |h |h)<;>contradiction),if_neg h5,if_neg h3,if_neg hr,if_neg h1,if_neg h2,if_neg h6,if_neg htm]
 rw[e]
 have h12: ¬t=12:=fun h=>hr (.inl h)
 have h19: ¬t=19:=fun h=>hr (.inr (.inl h))
 have h22: ¬t=22:=fun h=>hr (.inr (.inr (.inl h)))
 have h27: ¬t=27:=fun h=>hr (.inr (.inr (.inr h)))
 have h23: ¬t=23:=fun h=>htm (.inl h)
 have h24: ¬t=24:=fun h=>htm (.inr h)
 clear hr htm e
 go_enter Tryz.func142,Tryz.ntmps142
 go_wp2
 go_ret
 exact⟨ret_b (by first |rfl | (rw[Bool.eq_iff_iff];simp)),br_ _ _⟩
theorem alone_any (t:Int)(A:Option Addr)(n c:Nat)(xs:List Int)(outer:Nat)(w:World)(ht:0≤t∧t≤255)(hx:Bys w A n xs)(hc:n≤c)(hm:c≤maxLen)(hT:Tabs w):
 Calls Tryz.prog 61 #[.int .u8 t,.slice A n c,.int .i64 outer] w fun e w'=>e=.returned (.int .i64 (aloneF t xs outer))∧Below w.heap.size w w':=by
 unfold aloneF
 by_cases hd:32≤outer
 ·rw[if_pos hd]
  have hdz:(32:Int)≤(outer:Int):=by omega
  go_enter Tryz.func61,Tryz.ntmps61
  go_wp2
  go_ret
  exact⟨rfl,br_ _ _⟩
 ·rw[if_neg hd]
  have hdz: ¬(32:Int)≤(outer:Int):=by omega
  by_cases hk:t%32=31
  ·rw[if_pos hk]
   go_enter Tryz.func61,Tryz.ntmps61
   go_wp2
   go_ret
   exact⟨rfl,br_ _ _⟩
  ·rw[if_neg hk]
   have hb:=may_any t A n c xs w ht hx hc hm hT
   obtain⟨k,hkk⟩:=nm_ (mayF t xs)
   rw[hkk] at hb⊢
   have HB:=hd_ hb
   have hkb:(t%32==31)=false:=by simpa using hk
   clear hb hkk
   cases k
   all_goals
    go_enter Tryz.func61,Tryz.ntmps61
    go_wp2_with fail
    refine HB.out.mono ?_
    rintro e w' ⟨rfl,hb⟩
    go_wp2
    go_ret
    exact⟨rfl,hb⟩
end Go.Proofs.YtkjkhoglkpepiaaGreatDoor.ndc
set_option maxRecDepth 100000
set_option maxHeartbeats 16000000
set_option linter.unusedVariables false
set_option linter.unusedSimpArgs false
namespace Go.Proofs.YtkjkhoglkpepiaaGreatDoor.ndc
open Go.RowKit tlvc tlvd
def compB (t:Int):Bool:=decide (32≤t%64)
inductive WR where
 |no (e:Int)
 |ok (b:List Int)
structure WK where
 body:List Int
 last:List Int
 falls:Bool
def WK.add (k:WK)(b:List Int):WK:=⟨if k.body.length≤65535 then k.body++b else k.body,b,k.falls || behind k.last b⟩
def wk0:WK:=⟨[],[],false⟩
inductive WL where
 |no (e:Int)
 |ok (k:WK)
def misF (t:Int)(b:List Int)(kids:Nat):Bool:=if compB t=true then decide (0<b.length) else decide (0<kids)
def kresF (t:Int):WL→WR
 | .no e=>.no e
 | .ok k=>if t=49∧k.falls=true then .no 42 else .ok k.body
def putW (t:Int)(xs:List Int):WR:=if (putF t xs).2=0 then .ok (putF t xs).1 else .no (putF t xs).2
def finW (t:Int)(r:WR):WR:=
 match r with
 | .no e=>.no e
 | .ok b=>putW t b
mutual
def writeF:Nd→Nat→WR
 | .mk t b ks,outer=>
  if aloneF t b outer≠0 then .no (aloneF t b outer)
  else if misF t b ks.length=true then .no 43
  else if compB t=true then finW t (kresF t (writeL ks (outer+1) wk0))
  else putW t b
def writeL:List Nd→Nat→WK→WL
 | [],_,k=>.ok k
 |n::ns,outer,k=>
  match writeF n outer with
  | .no e=>.no e
  | .ok b=>writeL ns outer (k.add b)
end
inductive RR where
 |bad (at_:Int) (e:Int)
 |ok (n:Nd) (next:Nat)
structure RK where
 kids:List Nd
 last:List Int
 falls:Bool
inductive RL where
 |bad (at_:Int) (e:Int)
 |ok (k:RK)
def RK.add (k:RK)(n:Nd)(b:List Int):RK:=⟨k.kids++[n],b,k.falls || behind k.last b⟩
def rk0:RK:=⟨[],[],false⟩
def readL (rec:Nat→RR)(xs:List Int):Nat→Nat→RK→RL
 |0,_,k=>.ok k
 |f+1,next,k=>
  if next<xs.length then
   match rec next with
   | .bad a e=>.bad a e
   | .ok n nx=>readL rec xs f nx (k.add n ((xs.take nx).drop next))
  else .ok k
def readF:Nat→Nat→List Int→Nat→RR
 |0,_,_,at_=>.bad at_ 41
 |d+1,outer,xs,at_=>
  let h:=headF (xs.drop at_)
  if h.1≠0 then .bad at_ h.1
  else
   let from_:=at_+h.2.2.1.toNat
   let to_:=from_+h.2.2.2.toNat
   let body:=(xs.take to_).drop from_
   if aloneF h.2.1 body outer≠0 then .bad at_ (aloneF h.2.1 body outer)
   else if compB h.2.1=false then .ok (.mk h.2.1 body []) to_
   else
    match readL (readF d (outer+1) (xs.take to_)) (xs.take to_) (to_ - from_) from_ rk0 with
    | .bad a e=>.bad a e
    | .ok k=>if h.2.1=49∧k.falls=true then .bad at_ 42 else .ok (.mk h.2.1 [] k.kids) to_
theorem headF_ok: ∀(ys:List Int),Fit ys→∀t k m:Int,headF ys=(0,t,k,m)→(0≤t∧t≤255)∧(2≤k∧k≤4)∧0≤m∧m≤65535∧k+m≤ys.length∧ys.getD 0 0=t:=by
 have bad: ∀{e t k m:Int},e≠0→¬((e,(0:Int),(0:Int),(0:Int))=((0:Int),t,k,m)):=fun he h=>he (Prod.mk.inj h).1
 intro ys hf t k m h
 match ys,hf,h with
 | [],_,h=>exact absurd h (bad (by decide))
 | [t'],_,h=>
  rw[headF_one] at h
  split at h
  ·exact absurd h (bad (by decide))
  ·exact absurd h (bad (by decide))
 |t'::f::r,hf,h=>
  have h1:=hf t' (by simp)
  have h2:=hf f (by simp)
  by_cases he:endlessB t'=true
  ·rw[headF_tag _ _ _ he] at h;exact absurd h (bad (by decide))
  by_cases h3:f=128∨130<f
  ·rw[headF_len _ _ _ he h3] at h;exact absurd h (bad (by decide))
  by_cases h4:f<128
  ·rw[headF_s _ _ _ he h4] at h
   split at h
   ·exact absurd h (bad (by decide))
   ·simp only[Prod.mk.injEq] at h
    obtain⟨_,rfl,rfl,rfl⟩:=h
    simp;omega
  by_cases h5:f=129
  ·subst h5
   match r,hf,h with
   | [],_,h=>rw[headF_m0 _ he] at h;exact absurd h (bad (by decide))
   |x::r2,hf,h=>
    have h6:=hf x (by simp)
    rw[headF_m _ _ _ he] at h
    split at h
    ·exact absurd h (bad (by decide))
    ·split at h
     ·exact absurd h (bad (by decide))
     ·simp only[Prod.mk.injEq] at h
      obtain⟨_,rfl,rfl,rfl⟩:=h
      simp;omega
  ·obtain rfl:f=130:=by omega
   match r,hf,h with
   | [],_,h=>rw[headF_l0 _ he] at h;exact absurd h (bad (by decide))
   | [x],_,h=>rw[headF_l1 _ _ he] at h;exact absurd h (bad (by decide))
   |x::y::r2,hf,h=>
    have h6:=hf x (by simp)
    have h7:=hf y (by simp)
    rw[headF_l _ _ _ _ he] at h
    split at h
    ·exact absurd h (bad (by decide))
    ·split at h
     ·exact absurd h (bad (by decide))
     ·simp only[Prod.mk.injEq] at h
      obtain⟨_,rfl,rfl,rfl⟩:=h
      simp;omega
theorem comp_bits {t:Int}(h:0≤t∧t≤255):(bits .and .u8 t 32 !=0)=compB t:=by
 obtain⟨k,rfl⟩: ∃k:Nat,t=k:=⟨t.toNat,by omega⟩
 have key: ∀X:Fin 256,(bits .and .u8 ((X.val:Nat):Int) 32 !=0)=compB ((X.val:Nat):Int):=by decide+kernel
 exact key ⟨k,by omega⟩
end Go.Proofs.YtkjkhoglkpepiaaGreatDoor.ndc
namespace Go.Proofs.YtkjkhoglkpepiaaGreatDoor.ndc
open Go.RowKit tlvc tlvd txc
theorem compound_any (t:Int)(w:World)(ht:0≤t∧t≤255):
 Calls Tryz.prog 63 #[.int .u8 t] w fun e w'=>e=.returned (.bool (compB t))∧w=w':=by
 have h:=comp_bits ht
 go_enter Tryz.func63,Tryz.ntmps63
 go_wp2
 go_ret
 exact⟨rfl,rfl⟩
theorem step_run {P:Program}{ops:Array Oper}{o:Oper}{a:Act}{w w':World}{K:Act→World→Prop}{Q:Exit→Act→World→Prop}{E:Prop}
 (hg:o.guard=none) (s x:Operand) (t:TypeId) (hop:o.op=Op.call {callee:=Callee.builtin Builtin.append,args:=#[s,x],argTypes:=#[t,t]})
 (v vs vx:Value) (hs:a.eval s=vs) (hx:a.eval x=vx) (hrun:(Builtin.append_ #[t,t] o.type #[vs,vx]).run P w=.ok v w') (hK:K (a.put o.dst v) w'):
 if Region.wanted o (yielded ops a.tmps)=true then Oper.wp P o a w K Q else E:=by
 have hw:Region.wanted o (yielded ops a.tmps)=true:=by simp[Region.wanted,hg]
 rw[if_pos hw]
 unfold Oper.wp
 simp[execOp,hop,resolve,invoke,builtin,hs,hx,hrun,Result.andThen]
 exact hK
def Fault (a e:Int):Ending:=.panicked [{v:=.iface 107 (.agg #[.int .i64 a,.int .i64 e]),recovered:=false}]
def RPost (w:World)(r:RR)(e:Ending)(w':World):Prop:=
 Below w.heap.size w w'∧match r with
 | .bad a er=>e=Fault a er
 | .ok n nx=>∃v,e=.returned (.tuple #[v,.int .i64 nx])∧NdV (fun g=>w.heap.size≤g) w' n v
theorem head_at {xs:List Int}{at_:Nat}(h:at_≤xs.length):headE at_ xs=headR at_ (headF (xs.drop at_)):=by
 unfold headE
 rw[if_neg (by omega)]
 simp
theorem read_bad (d outer:Nat)(A:Option Addr)(n c:Nat)(xs:List Int)(at_:Nat)(w:World)(hx:Bys w A n xs)(hc:n≤c)(hm:c≤maxLen)(hat:at_≤n)(hh:(headF (xs.drop at_)).1≠0):
 Calls Tryz.prog 86 #[.slice A n c,.int .i64 at_,.int .i64 outer] w (RPost w (readF (d+1) outer xs at_)):=by
 have hr:readF (d+1) outer xs at_=.bad at_ (headF (xs.drop at_)).1:=by
  show(if _ then _ else _)=_
  rw[if_pos hh]
 rw[hr]
 have hhd:=head_of head_ways A n c xs at_ (w.alloc (.cells #[.int .u8 0,.slice none 0 0,.slice none 0 0] 43)) (hx.alloc _) hc hm
 rw[head_at (by rw[hx.1];exact hat)] at hhd
 unfold headR at hhd
 rw[if_neg hh] at hhd
 obtain⟨er,her⟩:=nm_ ((headF (xs.drop at_)).1)
 rw[her] at hhd hh⊢
 unfold No at hhd
 have HH:=hd_ hhd
 have hne:(er==0)=false:=by simpa using hh
 clear hhd her hr
 go_enter Tryz.func86,Tryz.ntmps86
 go_wp2_with fail
 refine HH.out.mono ?_
 rintro e w' ⟨rfl,rfl⟩
 go_wp2
 exact⟨rfl,(br_ _ _).alloc (lr_ _) _,rfl⟩
structure Spot (xs:List Int) (at_:Nat) (t:Int) (F T:Nat):Prop where
 head:headF (xs.drop at_)=(0,t,(F:Int) - at_,(T:Int) - F)
 tag:0≤t∧t≤255
 lo:at_+2≤F
 mid:F≤T
 few:T≤F+65535
 hi:T≤xs.length
theorem spot_of {xs:List Int}{at_:Nat}(hf:Fit xs)(hat:at_≤xs.length)(hh:(headF (xs.drop at_)).1=0): ∃t F T,Spot xs at_ t F T∧F=at_+ (headF (xs.drop at_)).2.2.1.toNat∧T=F+ (headF (xs.drop at_)).2.2.2.toNat∧t=(headF (xs.drop at_)).2.1:=by
 obtain⟨e,t,k,m,he⟩: ∃e t k m,headF (xs.drop at_)=(e,t,k,m):=⟨_,_,_,_,rfl⟩
 rw[he] at hh
 simp only at hh
 subst hh
 obtain⟨h1,⟨h2,h3⟩,h4,h5,h6,h7⟩:=headF_ok _ (hf.drop at_) t k m he
 rw[List.length_drop] at h6
 refine⟨t,at_+k.toNat,at_+k.toNat+m.toNat,⟨?_,h1,by omega,by omega,by omega,by omega⟩,by rw[he],by rw[he],by rw[he]⟩
 rw[he]
 have e1:((at_+k.toNat:Nat):Int) - (at_:Int)=k:=by omega
 have e2:((at_+k.toNat+m.toNat:Nat):Int) - ((at_+k.toNat:Nat):Int)=m:=by omega
 rw[e1,e2]
theorem head_spot {xs:List Int}{at_ F T:Nat}{t:Int}(h:Spot xs at_ t F T):headE at_ xs=Yes t F T:=by
 rw[head_at (by have:=h.lo;have:=h.mid;have:=h.hi;omega),h.head]
 unfold headR
 rw[if_pos rfl]
 have e1:(at_:Int)+ ((F:Int) - at_)=F:=by omega
 have e2:(F:Int)+ ((T:Int) - F)=T:=by omega
 simp only[e1,e2]
theorem body_bys {w:World}{b off n c F T:Nat}{xs:List Int}(hx:Bys w (some ⟨b,off,none⟩) n xs)(hc:n≤c)(hF:F≤T)(hT:T≤n):Bys w (some ⟨b,if c=F then off else off+F,none⟩) (T - F) ((xs.take T).drop F):=by
 have h1:=(hx.upto hT).cut (k:=F) (cap:=c) hF (by omega)
 split
 ·rename_i h;rw[if_pos h] at h1;exact h1
 ·rename_i h;rw[if_neg h] at h1;simpa[Addr.add_lit] using h1
theorem read_own (outer:Nat)(A:Option Addr)(n c:Nat)(xs:List Int)(at_ F T:Nat)(t:Int)(w:World)(hx:Bys w A n xs)(hc:n≤c)(hm:c≤maxLen)(hs:Spot xs at_ t F T)(hTb:Tabs w)(ho:aloneF t ((xs.take T).drop F) outer≠0):
 Calls Tryz.prog 86 #[.slice A n c,.int .i64 at_,.int .i64 outer] w (RPost w (.bad at_ (aloneF t ((xs.take T).drop F) outer))):=by
 have hl:=hx.1
 have hlo:=hs.lo
 have hmid:=hs.mid
 have hhi:=hs.hi
 have hm9:c≤9223372036854775807:=by unfold maxLen at hm;omega
 obtain⟨b,off,rfl,hb,_⟩:=hx.2.2 (by omega)
 have hhd:=head_of head_ways (some ⟨b,off,none⟩) n c xs at_ (w.alloc (.cells #[.int .u8 0,.slice none 0 0,.slice none 0 0] 43)) (hx.alloc _) hc hm
 rw[head_spot hs] at hhd
 unfold Yes at hhd
 have hbd:=body_bys (hx.alloc (.cells #[.int .u8 0,.slice none 0 0,.slice none 0 0] 43)) hc hmid (by omega)
 have hal:=alone_any t (some ⟨b,if c=F then off else off+F,none⟩) (T - F) (c - F) ((xs.take T).drop F) outer (w.alloc (.cells #[.int .u8 0,.slice none 0 0,.slice none 0 0] 43)) hs.tag hbd (by omega) (Nat.le_trans (Nat.sub_le _ _) hm) (hTb.below ((br_ _ _).alloc (lr_ _) _))
 obtain⟨er,her⟩:=nm_ (aloneF t ((xs.take T).drop F) outer)
 rw[her] at hal ho⊢
 have HH:=hd_ hhd
 have hne:(er==0)=false:=by simpa using ho
 have i1:(0:Int)≤(F:Int):=by omega
 have i2:(F:Int)≤(T:Int):=by omega
 have i3:(T:Int)≤(c:Int):=by omega
 have hbw:Below w.heap.size w (w.alloc (.cells #[.int .u8 0,.slice none 0 0,.slice none 0 0] 43)):=(br_ _ _).alloc (lr_ _) _
 by_cases hcF:c=F
 ·subst hcF
  rw[if_pos rfl] at hal
  obtain rfl:T=c:=by omega
  rw[Nat.sub_self] at hal
  have HA:=hd_ hal
  clear hhd her hbd hal hs hx
  go_enter Tryz.func86,Tryz.ntmps86
  go_wp2_with fail
  refine HH.out.mono ?_
  rintro e w' ⟨rfl,rfl⟩
  go_wp2_with fail
  refine HA.out.mono ?_
  rintro e w' ⟨rfl,hb2⟩
  go_wp2
  exact⟨rfl,hbw.trans (hb2.mono hbw.size),rfl⟩
 ·rw[if_neg hcF] at hal
  have hcF1: ¬c - F=0:=by omega
  have HA:=hd_ hal
  clear hhd her hbd hal hs hx
  go_enter Tryz.func86,Tryz.ntmps86
  go_wp2_with fail
  refine HH.out.mono ?_
  rintro e w' ⟨rfl,rfl⟩
  go_wp2_with fail
  refine HA.out.mono ?_
  rintro e w' ⟨rfl,hb2⟩
  go_wp2
  exact⟨rfl,hbw.trans (hb2.mono hbw.size),rfl⟩
end Go.Proofs.YtkjkhoglkpepiaaGreatDoor.ndc
namespace Go.Proofs.YtkjkhoglkpepiaaGreatDoor.ndc
open Go.RowKit tlvc tlvd txc
theorem app_nil (w:World)(A:Option Addr)(m c:Nat)(ys:List Int)(hb:Bys w A m ys)(hm:m≤140737488355328):
 ∃v w',(Builtin.append_ #[34,34] 34 #[.slice none 0 0,.slice A m c]).run Tryz.prog w=.ok v w'∧w'.ownsRow w.heap.size 5 1 v m (vals ys)∧w.grownBy w' none:=by
 obtain⟨i0,hi,hz0,hz1,hz2⟩:=info_parts intc.Tryz.info5
 obtain⟨v,w',h1,h2,h3⟩:=run_app (P:=Tryz.prog) w w.heap.size 34 34 5 i0 (.int .u8 0) Tryz.underlying34 hi hz0 hz1 hz2 rfl (.slice none 0 0) 0 [] (World.ownsRow_nil _ _ _ _) A m c ys hb (by omega) (lr_ _)
 rw[Nat.zero_add,List.nil_append] at h2
 exact⟨v,w',h1,h2,h3⟩
theorem heap_new_ (w:World)(o:Obj):(w.alloc o).heap[w.heap.size]? =some o:=by show(w.heap.push o)[w.heap.size]? =_;simp
theorem heap_old_ (w:World)(o:Obj){k:Nat}(h:k<w.heap.size):(w.alloc o).heap[k]? =w.heap[k]? :=by show(w.heap.push o)[k]? =_;rw[Array.getElem?_push_lt h];exact(Array.getElem?_eq_getElem h).symm
theorem three_set (W:World)(p B:Nat)(x0 x1 x2 y0 y1 y2:Value)(hB:B≤p)(h0:W.cell? ⟨p,0,none⟩=some x0)(h1:W.cell? ⟨p,1,none⟩=some x1)(h2:W.cell? ⟨p,2,none⟩=some x2):
 (((W.setCell ⟨p,0,none⟩ y0).setCell ⟨p,1,none⟩ y1).setCell ⟨p,2,none⟩ y2).cell? ⟨p,0,none⟩=some y0∧(((W.setCell ⟨p,0,none⟩ y0).setCell ⟨p,1,none⟩ y1).setCell ⟨p,2,none⟩ y2).cell? ⟨p,1,none⟩=some y1∧(((W.setCell ⟨p,0,none⟩ y0).setCell ⟨p,1,none⟩ y1).setCell ⟨p,2,none⟩ y2).cell? ⟨p,2,none⟩=some y2∧Below B W (((W.setCell ⟨p,0,none⟩ y0).setCell ⟨p,1,none⟩ y1).setCell ⟨p,2,none⟩ y2)∧∀q:Addr,q.block≠p→(((W.setCell ⟨p,0,none⟩ y0).setCell ⟨p,1,none⟩ y1).setCell ⟨p,2,none⟩ y2).cell? q=W.cell? q:=by
 have ne: ∀{i j:Nat},i≠j→(⟨p,i,none⟩:Addr)≠⟨p,j,none⟩:=fun h e=>h (by injection e)
 have neq: ∀{i:Nat} {q:Addr},q.block≠p→(⟨p,i,none⟩:Addr)≠q:=fun h e=>h (by rw[←e])
 refine⟨?_,?_,?_,?_,fun q hq=>?_⟩
 ·rw[World.cell?_setCell_other _ _ _ _ (ne (by decide)),World.cell?_setCell_other _ _ _ _ (ne (by decide))]
  exact World.cell?_setCell_same _ _ _ h0
 ·rw[World.cell?_setCell_other _ _ _ _ (ne (by decide))]
  exact World.cell?_setCell_same _ _ _ (u:=x1) (by rw[World.cell?_setCell_other _ _ _ _ (ne (by decide))];exact h1)
 ·exact World.cell?_setCell_same _ _ _ (u:=x2) (by rw[World.cell?_setCell_other _ _ _ _ (ne (by decide)),World.cell?_setCell_other _ _ _ _ (ne (by decide))];exact h2)
 ·exact(((br_ B W).setCell (show B≤(⟨p,0,none⟩:Addr).block from hB) _).setCell (show B≤(⟨p,1,none⟩:Addr).block from hB) _).setCell (show B≤(⟨p,2,none⟩:Addr).block from hB) _
 ·rw[World.cell?_setCell_other _ _ _ _ (neq hq),World.cell?_setCell_other _ _ _ _ (neq hq),World.cell?_setCell_other _ _ _ _ (neq hq)]
theorem plain_end (w W3:World)(nb base len co:Nat)(t:Int)(ys:List Int)(Ao:Option Addr)(x0 x1 x2 z1:Value)(htag:0≤t∧t≤255)(hnb:w.heap.size<nb)(hbase:nb<base)(hlc:len≤co)(hcm:co≤maxLen)(hbo:Bys W3 Ao len ys)(hAo: ∀k,k<len→∃g,Ao=some ⟨g,0,none⟩∧base≤g∧g<W3.heap.size)(hB3:Below w.heap.size w W3)
 (d0:W3.cell? ⟨w.heap.size,0,none⟩=some x0) (d1:W3.cell? ⟨w.heap.size,1,none⟩=some x1) (d2:W3.cell? ⟨w.heap.size,2,none⟩=some x2):
 ∃W4,(((W3.setCell ⟨nb,1,none⟩ (.slice Ao len co)).setCell ⟨w.heap.size,0,none⟩ (.int .u8 t)).setCell ⟨w.heap.size,1,none⟩ (.slice Ao len co)).setCell ⟨w.heap.size,2,none⟩ (.slice none 0 0)=W4∧
  W4.cell? ⟨w.heap.size,0,none⟩=some (.int .u8 t)∧W4.cell? ⟨w.heap.size,1,none⟩=some (.slice Ao len co)∧W4.cell? ⟨w.heap.size,2,none⟩=some (.slice none 0 0)∧Below w.heap.size w W4∧NdV (fun g=>w.heap.size≤g) W4 (.mk t ys []) (.agg #[.int .u8 t,.slice Ao len co,.slice none 0 0]):=by
 have ne: ∀{i:Nat},(⟨nb,1,none⟩:Addr)≠⟨w.heap.size,i,none⟩:=fun e=>by injection e;omega
 obtain⟨r0,r1,r2,hb,hk⟩:=three_set (W3.setCell ⟨nb,1,none⟩ (.slice Ao len co)) w.heap.size w.heap.size x0 x1 x2 (.int .u8 t) (.slice Ao len co) (.slice none 0 0) (lr_ _)
  (by rw[World.cell?_setCell_other _ _ _ _ ne];exact d0) (by rw[World.cell?_setCell_other _ _ _ _ ne];exact d1) (by rw[World.cell?_setCell_other _ _ _ _ ne];exact d2)
 have hb0:Below w.heap.size W3 (W3.setCell ⟨nb,1,none⟩ (.slice Ao len co)):=(br_ _ _).setCell (show w.heap.size≤(⟨nb,1,none⟩:Addr).block from Nat.le_of_lt hnb) _
 have hst:Stays (fun g=>base≤g) W3 ((((W3.setCell ⟨nb,1,none⟩ (.slice Ao len co)).setCell ⟨w.heap.size,0,none⟩ (.int .u8 t)).setCell ⟨w.heap.size,1,none⟩ (.slice Ao len co)).setCell ⟨w.heap.size,2,none⟩ (.slice none 0 0)):=
  ⟨Nat.le_trans hb0.size hb.size,fun p hp hlt=>by
    have hp:base≤p.block:=hp
    rw[hk p (by omega),World.cell?_setCell_other _ _ _ _ (by intro e;rw[←e] at hp;exact absurd hp (by show¬base≤nb;omega))]⟩
 have hfar:0<len→∀g off sp,Ao=some ⟨g,off,sp⟩→base≤g:=fun hl g off sp e=>by
  obtain⟨g',e',hg,_⟩:=hAo 0 hl
  rw[e'] at e;cases e;exact hg
 refine⟨_,rfl,r0,r1,r2,(hB3.trans hb0).trans hb,_,_,_,rfl,?_⟩
 unfold NdC
 exact⟨rfl,htag,⟨Ao,len,co,rfl,hlc,hcm,bys_stays hst hbo hfar,fun hl g off sp e=>by have:=hfar hl g off sp e;show w.heap.size≤g;omega⟩,none,0,rfl,lr_ _,Nat.zero_le _,fun h=>absurd h (by simp)⟩
theorem read_plain (outer:Nat)(A:Option Addr)(n c:Nat)(xs:List Int)(at_ F T:Nat)(t:Int)(w:World)(hx:Bys w A n xs)(hc:n≤c)(hm:c≤maxLen)(hs:Spot xs at_ t F T)(hTb:Tabs w)(ho:aloneF t ((xs.take T).drop F) outer=0)(hcp:compB t=false):
 Calls Tryz.prog 86 #[.slice A n c,.int .i64 at_,.int .i64 outer] w (RPost w (.ok (.mk t ((xs.take T).drop F) []) T)):=by
 have hl:=hx.1
 have hlo:=hs.lo
 have hmid:=hs.mid
 have hhi:=hs.hi
 have htag:=hs.tag
 have hfew:=hs.few
 have hm9:c≤9223372036854775807:=by unfold maxLen at hm;omega
 obtain⟨b,off,rfl,hb,_⟩:=hx.2.2 (by omega)
 have hbw:Below w.heap.size w (w.alloc (.cells #[.int .u8 0,.slice none 0 0,.slice none 0 0] 43)):=(br_ _ _).alloc (lr_ _) _
 have hhd:=head_of head_ways (some ⟨b,off,none⟩) n c xs at_ (w.alloc (.cells #[.int .u8 0,.slice none 0 0,.slice none 0 0] 43)) (hx.alloc _) hc hm
 rw[head_spot hs] at hhd
 unfold Yes at hhd
 obtain⟨ys,hys⟩:=nm_ ((xs.take T).drop F)
 have hbd:=body_bys hx hc hmid (by omega)
 rw[hys] at hbd ho⊢
 have hyl:ys.length=T - F:=by rw[←hys,List.length_drop,List.length_take];omega
 have hal:=alone_any t (some ⟨b,if c=F then off else off+F,none⟩) (T - F) (c - F) ys outer (w.alloc (.cells #[.int .u8 0,.slice none 0 0,.slice none 0 0] 43)) htag (hbd.below hbw) (by omega) (Nat.le_trans (Nat.sub_le _ _) hm) (hTb.below hbw)
 rw[ho] at hal
 have hcm:=fun W=>compound_any t W htag
 rw[hcp] at hcm
 have HH:=hd_ hhd
 have HC:=hd_ hcm
 have HB:=hd_ hbd
 have i1:(0:Int)≤(F:Int):=by omega
 have i2:(F:Int)≤(T:Int):=by omega
 have i3:(T:Int)≤(c:Int):=by omega
 have mixed:Tryz.prog.follows Departure.mixedOrders=true:=by kernel_rfl
 by_cases hcF:c=F
 ·subst hcF
  rw[if_pos rfl] at hal HB
  obtain rfl:T=c:=by omega
  rw[Nat.sub_self] at hal HB
  have HA:=hd_ hal
  clear hhd hbd hal hs hx hys hcm
  go_enter Tryz.func86,Tryz.ntmps86
  go_wp2_with fail
  refine HH.out.mono ?_
  rintro e w' ⟨rfl,rfl⟩
  go_wp2_with fail
  refine HA.out.mono ?_
  rintro e w1 ⟨rfl,hb1⟩
  have hB1:=hbw.trans (hb1.mono hbw.size)
  have hP0:w1.heap[w.heap.size]? =some (.cells #[.int .u8 0,.slice none 0 0,.slice none 0 0] 43):=(hb1.block _ (by simp)).trans (heap_new_ _ _)
  have hP1:w.heap.size<w1.heap.size:=by have:=hb1.size;simp at this;omega
  have HBw:=(HB.out.below hB1)
  clear HA hb1 hbw HB
  go_wp2_with fail
  obtain⟨W2,hW2⟩:=nm_ (w1.alloc (.cells #[.int .u8 t,.slice none 0 0,.slice none 0 0] 43))
  have hn2:W2.heap[w1.heap.size]? =some (.cells #[.int .u8 t,.slice none 0 0,.slice none 0 0] 43):=by rw[←hW2];exact heap_new_ _ _
  have hp2:W2.heap[w.heap.size]? =some (.cells #[.int .u8 0,.slice none 0 0,.slice none 0 0] 43):=by rw[←hW2,heap_old_ _ _ hP1];exact hP0
  have hz2:W2.heap.size=w1.heap.size+1:=by rw[←hW2];simp
  have hB2:Below w.heap.size w W2:=by rw[←hW2];exact hB1.alloc hB1.size _
  have hb2:=HBw.alloc (.cells #[.int .u8 t,.slice none 0 0,.slice none 0 0] 43)
  rw[hW2] at hb2⊢
  obtain⟨v,W3,hrun,hown,hgr⟩:=app_nil W2.drew _ _ 0 ys hb2.drew (by omega)
  obtain⟨Ao,co,hv,hlo3,hco3,hAo⟩:=own_shape hown
  subst hv
  have hn3:W3.heap[w1.heap.size]? =some (.cells #[.int .u8 t,.slice none 0 0,.slice none 0 0] 43):=(hgr.block _ (by show _<W2.heap.size;omega) (by simp)).trans hn2
  have hp3:W3.heap[w.heap.size]? =some (.cells #[.int .u8 0,.slice none 0 0,.slice none 0 0] 43):=(hgr.block _ (by show _<W2.heap.size;omega) (by simp)).trans hp2
  have a0:W2.drew.cell? ⟨w1.heap.size,1,none⟩=some (.slice none 0 0):=by show W2.cell? _=_;rw[ch_ hn2];rfl
  have c0:W3.cell? ⟨w1.heap.size,0,none⟩=some (.int .u8 t):=by rw[ch_ hn3];rfl
  have c1:W3.cell? ⟨w1.heap.size,1,none⟩=some (.slice none 0 0):=by rw[ch_ hn3];rfl
  have c2:W3.cell? ⟨w1.heap.size,2,none⟩=some (.slice none 0 0):=by rw[ch_ hn3];rfl
  have f1:W3.frozen? ⟨w1.heap.size,1,none⟩=false:=fh_ hn3 _
  have d0:W3.cell? ⟨w.heap.size,0,none⟩=some (.int .u8 0):=by rw[ch_ hp3];rfl
  have d1:W3.cell? ⟨w.heap.size,1,none⟩=some (.slice none 0 0):=by rw[ch_ hp3];rfl
  have d2:W3.cell? ⟨w.heap.size,2,none⟩=some (.slice none 0 0):=by rw[ch_ hp3];rfl
  have g0:W3.frozen? ⟨w.heap.size,0,none⟩=false:=fh_ hp3 _
  have g1:W3.frozen? ⟨w.heap.size,1,none⟩=false:=fh_ hp3 _
  have g2:W3.frozen? ⟨w.heap.size,2,none⟩=false:=fh_ hp3 _
  have hne: ¬w1.heap.size=w.heap.size:=by omega
  have hne2: ¬w.heap.size=w1.heap.size:=by omega
  have hB3:Below w.heap.size w W3:=hB2.drew.grown hgr hB2.size (fun _ h=>by cases h)
  have hbo:=Bys.own hown hb2.2.1
  have HO:=hd_ (ai_ hbo (ai_ hAo hB3))
  refine(HC.out _).mono ?_
  rintro e w' ⟨rfl,rfl⟩
  clear hn2 hp2 hn3 hp3 hW2 HBw hb2 hB1 hP0 hB2 hown hgr hbo hAo hB3
  go_wp2_with fail
  go_region_law (refine step_run rfl (.tmp 46) (.tmp 50) 34 rfl _ _ _ (by simp[Act.eval]) (by simp[Act.eval]) hrun ?_)
  go_wp2
  obtain⟨W4,hW4,r0,r1,r2,hBe,hN⟩:=plain_end w W3 w1.heap.size W2.heap.size 0 co t ys Ao _ _ _ (.slice none 0 0) htag hP1 (by omega) hlo3 hco3 HO.out.1 HO.out.2.1 HO.out.2.2 d0 d1 d2
  rw[hW4]
  refine bodyPost_ret (v:=.tuple #[.agg #[.int .u8 t,.slice Ao 0 co,.slice none 0 0],.int .i64 T]) ?_ rfl ⟨hBe,_,rfl,hN⟩
  simp[results,Tryz.results86,go_sem,r0,r1,r2]
 ·rw[if_neg hcF] at hal HB
  have hcF1: ¬c - F=0:=by omega
  obtain⟨m,hm2⟩:=nm_ (T - F)
  have hm3:m≤65535:=by omega
  rw[hm2] at hal HB
  have HA:=hd_ hal
  clear hhd hbd hal hs hx hys hcm
  go_enter Tryz.func86,Tryz.ntmps86
  go_wp2_with fail
  refine HH.out.mono ?_
  rintro e w' ⟨rfl,rfl⟩
  go_wp2_with fail
  refine HA.out.mono ?_
  rintro e w1 ⟨rfl,hb1⟩
  have hB1:=hbw.trans (hb1.mono hbw.size)
  have hP0:w1.heap[w.heap.size]? =some (.cells #[.int .u8 0,.slice none 0 0,.slice none 0 0] 43):=(hb1.block _ (by simp)).trans (heap_new_ _ _)
  have hP1:w.heap.size<w1.heap.size:=by have:=hb1.size;simp at this;omega
  have HBw:=(HB.out.below hB1)
  clear HA hb1 hbw HB
  go_wp2_with fail
  obtain⟨W2,hW2⟩:=nm_ (w1.alloc (.cells #[.int .u8 t,.slice none 0 0,.slice none 0 0] 43))
  have hn2:W2.heap[w1.heap.size]? =some (.cells #[.int .u8 t,.slice none 0 0,.slice none 0 0] 43):=by rw[←hW2];exact heap_new_ _ _
  have hp2:W2.heap[w.heap.size]? =some (.cells #[.int .u8 0,.slice none 0 0,.slice none 0 0] 43):=by rw[←hW2,heap_old_ _ _ hP1];exact hP0
  have hz2:W2.heap.size=w1.heap.size+1:=by rw[←hW2];simp
  have hB2:Below w.heap.size w W2:=by rw[←hW2];exact hB1.alloc hB1.size _
  have hb2:=HBw.alloc (.cells #[.int .u8 t,.slice none 0 0,.slice none 0 0] 43)
  rw[hW2] at hb2⊢
  obtain⟨v,W3,hrun,hown,hgr⟩:=app_nil W2.drew _ m (c - F) ys hb2.drew (by omega)
  obtain⟨Ao,co,hv,hlo3,hco3,hAo⟩:=own_shape hown
  subst hv
  have hn3:W3.heap[w1.heap.size]? =some (.cells #[.int .u8 t,.slice none 0 0,.slice none 0 0] 43):=(hgr.block _ (by show _<W2.heap.size;omega) (by simp)).trans hn2
  have hp3:W3.heap[w.heap.size]? =some (.cells #[.int .u8 0,.slice none 0 0,.slice none 0 0] 43):=(hgr.block _ (by show _<W2.heap.size;omega) (by simp)).trans hp2
  have a0:W2.drew.cell? ⟨w1.heap.size,1,none⟩=some (.slice none 0 0):=by show W2.cell? _=_;rw[ch_ hn2];rfl
  have c0:W3.cell? ⟨w1.heap.size,0,none⟩=some (.int .u8 t):=by rw[ch_ hn3];rfl
  have c1:W3.cell? ⟨w1.heap.size,1,none⟩=some (.slice none 0 0):=by rw[ch_ hn3];rfl
  have c2:W3.cell? ⟨w1.heap.size,2,none⟩=some (.slice none 0 0):=by rw[ch_ hn3];rfl
  have f1:W3.frozen? ⟨w1.heap.size,1,none⟩=false:=fh_ hn3 _
  have d0:W3.cell? ⟨w.heap.size,0,none⟩=some (.int .u8 0):=by rw[ch_ hp3];rfl
  have d1:W3.cell? ⟨w.heap.size,1,none⟩=some (.slice none 0 0):=by rw[ch_ hp3];rfl
  have d2:W3.cell? ⟨w.heap.size,2,none⟩=some (.slice none 0 0):=by rw[ch_ hp3];rfl
  have g0:W3.frozen? ⟨w.heap.size,0,none⟩=false:=fh_ hp3 _
  have g1:W3.frozen? ⟨w.heap.size,1,none⟩=false:=fh_ hp3 _
  have g2:W3.frozen? ⟨w.heap.size,2,none⟩=false:=fh_ hp3 _
  have hne: ¬w1.heap.size=w.heap.size:=by omega
  have hne2: ¬w.heap.size=w1.heap.size:=by omega
  have hB3:Below w.heap.size w W3:=hB2.drew.grown hgr hB2.size (fun _ h=>by cases h)
  have hbo:=Bys.own hown hb2.2.1
  have HO:=hd_ (ai_ hbo (ai_ hAo hB3))
  refine(HC.out _).mono ?_
  rintro e w' ⟨rfl,rfl⟩
  clear hn2 hp2 hn3 hp3 hW2 HBw hb2 hB1 hP0 hB2 hown hgr hbo hAo hB3
  go_wp2_with fail
  go_region_law (refine step_run rfl (.tmp 46) (.tmp 50) 34 rfl _ _ _ (by simp[Act.eval]) (by simp[Act.eval]) hrun ?_)
  go_wp2
  obtain⟨W4,hW4,r0,r1,r2,hBe,hN⟩:=plain_end w W3 w1.heap.size W2.heap.size m co t ys Ao _ _ _ (.slice none 0 0) htag hP1 (by omega) hlo3 hco3 HO.out.1 HO.out.2.1 HO.out.2.2 d0 d1 d2
  rw[hW4]
  refine bodyPost_ret (v:=.tuple #[.agg #[.int .u8 t,.slice Ao m co,.slice none 0 0],.int .i64 T]) ?_ rfl ⟨hBe,_,rfl,hN⟩
  simp[results,Tryz.results86,go_sem,r0,r1,r2]
end Go.Proofs.YtkjkhoglkpepiaaGreatDoor.ndc
namespace Go.Proofs.YtkjkhoglkpepiaaGreatDoor.ndc
open Go.RowKit tlvc tlvd txc
theorem wpl_run {P:Program}{w w':World}{ops:Array Oper}{rest:List Oper}{o:Oper}{a:Act}{Q:Exit→Act→World→Prop}(hgd:o.guard=none)(s x:Operand)(t:TypeId)
 (ho:o.op=.call {callee:=.builtin .append,args:=#[s,x],argTypes:=#[t,t]}) (v vs vx:Value) (hs:a.eval s=vs) (hx:a.eval x=vx)
 (hrun:(Builtin.append_ #[t,t] o.type #[vs,vx]).run P w=.ok v w') (h:wpList P ops Q rest (a.put o.dst v) w'):wpList P ops Q (o::rest) a w:=by
 refine wpList_plain hgd fun K hK=>?_
 unfold Oper.wp
 simp[execOp,ho,resolve,invoke,builtin,hs,hx,hrun,Result.andThen]
 exact hK _ _ h
theorem Tryz.infoNode:(Tryz.prog.info? 43).map (fun i=>(i.zero,i.size,i.bytes))=some (some (.agg #[.int .u8 0,.slice none 0 0,.slice none 0 0]),3,56):=by kernel_rfl
theorem app_node (w:World)(base:Nat)(v:Value)(n:Nat)(cs:List Value)(hown:w.ownsRow base 43 3 v n cs)(g:Nat)(c0 c1 c2:Value)
 (h0:w.cell? ⟨g,0,none⟩=some c0) (h1:w.cell? ⟨g,1,none⟩=some c1) (h2:w.cell? ⟨g,2,none⟩=some c2) (o0:c0.oneCell'=true) (o1:c1.oneCell'=true) (o2:c2.oneCell'=true) (hn:n≤100000) (hbase:base≤w.heap.size):
 ∃v' w',(Builtin.append_ #[41,41] 41 #[v,.slice (some ⟨g,0,none⟩) 1 1]).run Tryz.prog w=.ok v' w'∧w'.ownsRow base 43 3 v' (n+1) (cs++[c0,c1,c2])∧w.grownBy w' v.ownBlock∧(v'.ownBlock=v.ownBlock∨ ∃g',v'.ownBlock=some g'∧w.heap.size≤g'):=by
 obtain⟨i0,hi,hz0,hz1,hz2⟩:=info_parts Tryz.infoNode
 have hnews: ∀j u,([c0,c1,c2]:List Value)[j]? =some u→w.cell? ((⟨g,0,none⟩:Addr).add j)=some u:=fun j u hu=>by
  rw[Addr.add_lit,Nat.zero_add]
  match j,hu with
  |0,hu=>simp at hu;subst hu;exact h0
  |1,hu=>simp at hu;subst hu;exact h1
  |2,hu=>simp at hu;subst hu;exact h2
  |j+3,hu=>simp at hu
 have hone: ∀u∈([c0,c1,c2]:List Value),u.oneCell'=true:=fun u hu=>by
  simp at hu;rcases hu with rfl |rfl |rfl<;>assumption
 obtain⟨v',w',hr,hown',hgr,_⟩:=run_append_own (P:=Tryz.prog) w base 41 41 43 i0 (.agg #[.int .u8 0,.slice none 0 0,.slice none 0 0]) 3 56 Tryz.underlying41 hi hz0 hz1 hz2 rfl (by decide) v n cs hown ⟨g,0,none⟩ 1 1 [c0,c1,c2] rfl hnews hone (by unfold maxLen;omega) (by omega) hbase
 refine⟨v',w',hr,hown',hgr,?_⟩
 rcases hown.2 with ⟨rfl,rfl⟩ | ⟨gv,cap,cur,rfl,hbg,hg,hnc,hcm,hcs,htake⟩
 ·obtain⟨v2,w2,hr2,hown2,_,_⟩:=run_append_own (P:=Tryz.prog) w w.heap.size 41 41 43 i0 (.agg #[.int .u8 0,.slice none 0 0,.slice none 0 0]) 3 56 Tryz.underlying41 hi hz0 hz1 hz2 rfl (by decide) (.slice none 0 0) 0 [] (World.ownsRow_nil _ _ _ _) ⟨g,0,none⟩ 1 1 [c0,c1,c2] rfl hnews hone (by unfold maxLen;omega) (by omega) (lr_ _)
  rw[hr] at hr2
  obtain⟨rfl,rfl⟩:=Result.ok.inj hr2
  rcases hown2.2 with ⟨_,h⟩ | ⟨g',_,_,rfl,hb',_⟩
  ·omega
  ·exact .inr ⟨g',rfl,hb'⟩
 ·by_cases hroom:n+1≤cap
  ·have hr2:=run_append_room (P:=Tryz.prog) w 41 41 43 i0 Tryz.underlying41 hi gv n cap cur hg ⟨g,0,none⟩ 1 1 [c0,c1,c2] (by rw[hz1];rfl) hnews hone hroom (by rw[hz1,hcs];simp;omega)
   rw[hr] at hr2
   obtain⟨rfl,_⟩:=Result.ok.inj hr2
   exact .inl rfl
  ·have holds: ∀j u,cs[j]? =some u→w.cell? ((⟨gv,0,none⟩:Addr).add j)=some u:=hown.cells (g:=gv) rfl
   have hr2:=run_append_grow (P:=Tryz.prog) w 41 41 43 i0 (.agg #[.int .u8 0,.slice none 0 0,.slice none 0 0]) Tryz.underlying41 hi hz0 ⟨gv,0,none⟩ n cap cs (by rw[hz1];exact hown.1) holds ⟨g,0,none⟩ 1 1 [c0,c1,c2] (by rw[hz1];rfl) hnews (by omega) (by unfold maxLen at*;omega) (growslice_fits (by omega) (by rw[hz2];omega))
   rw[hr] at hr2
   obtain⟨rfl,_⟩:=Result.ok.inj hr2
   exact .inr ⟨_,rfl,lr_ _⟩
def Trips (S:Nat→Prop)(w:World):List Nd→List Value→Prop
 | [],cs=>cs=[]
 |k::ks,cs=>∃c0 c1 c2 r,cs=c0::c1::c2::r∧NdC S w k c0 c1 c2∧Trips S w ks r
theorem Trips.stays {S:Nat→Prop}{w w':World}(hs:Stays S w w'): ∀{ks:List Nd} {cs:List Value},Trips S w ks cs→Trips S w' ks cs
 | [],_,h=>h
 |k::ks,_,⟨c0,c1,c2,r,e,hk,hr⟩=>⟨c0,c1,c2,r,e,NdC.stays hs k c0 c1 c2 hk,Trips.stays hs hr⟩
theorem Trips.mono {S S':Nat→Prop}{w:World}(hS: ∀g,S g→S' g): ∀{ks:List Nd} {cs:List Value},Trips S w ks cs→Trips S' w ks cs
 | [],_,h=>h
 |k::ks,_,⟨c0,c1,c2,r,e,hk,hr⟩=>⟨c0,c1,c2,r,e,NdC.mono hS k c0 c1 c2 hk,Trips.mono hS hr⟩
theorem Trips.snoc {S:Nat→Prop}{w:World}{n:Nd}{d0 d1 d2:Value}(hn:NdC S w n d0 d1 d2): ∀{ks:List Nd} {cs:List Value},Trips S w ks cs→Trips S w (ks++[n]) (cs++[d0,d1,d2])
 | [],cs,h=>by
  have h:cs=[]:=h
  subst h
  exact⟨d0,d1,d2,[],rfl,hn,rfl⟩
 |k::ks,_,⟨c0,c1,c2,r,e,hk,hr⟩=>⟨c0,c1,c2,r++[d0,d1,d2],by rw[e];rfl,hk,Trips.snoc hn hr⟩
theorem Trips.kids {S:Nat→Prop}{w:World}{g:Nat}: ∀{ks:List Nd} {cs:List Value} {off:Nat},Trips S w ks cs→(∀j u,cs[j]? =some u→w.cell? ⟨g,off+j,none⟩=some u)→KidsC S w g off ks
 | [],_,_,_,_=>by unfold KidsC;trivial
 |k::ks,_,off,⟨c0,c1,c2,r,e,hk,hr⟩,hc=>by
  subst e
  unfold KidsC
  refine⟨⟨c0,c1,c2,hc 0 c0 rfl,hc 1 c1 rfl,hc 2 c2 rfl,hk⟩,Trips.kids hr fun j u hu=>?_⟩
  have:=hc (j+3) u hu
  rwa[show off+ (j+3)=off+3+j by omega] at this
theorem Trips.len {S:Nat→Prop}{w:World}: ∀{ks:List Nd} {cs:List Value},Trips S w ks cs→cs.length=ks.length*3
 | [],_,h=>by have h:_=[]:=h;subst h;rfl
 |k::ks,_,⟨c0,c1,c2,r,e,hk,hr⟩=>by subst e;have:=Trips.len hr;simp;omega
theorem NdC.one {S:Nat→Prop}{w:World}{n:Nd}{c0 c1 c2:Value}(h:NdC S w n c0 c1 c2):c0.oneCell'=true∧c1.oneCell'=true∧c2.oneCell'=true:=by
 obtain⟨t,b,ks⟩:=n
 unfold NdC at h
 obtain⟨rfl,_,⟨A,la,ca,rfl,_⟩,K,ck,rfl,_⟩:=h
 exact⟨rfl,rfl,rfl⟩
end Go.Proofs.YtkjkhoglkpepiaaGreatDoor.ndc
namespace Go.Proofs.YtkjkhoglkpepiaaGreatDoor.ndc
open Go.RowKit tlvc tlvd txc
theorem set_heap (w:World)(g i:Nat)(v:Value)(cs:Array Value)(T:TypeId)(fr:Nat × Nat)(h:w.heap[g]? =some (.cells cs T fr)):(w.setCell ⟨g,i,none⟩ v).heap[g]? =some (.cells (cs.setIfInBounds i v) T fr):=by
 simp[World.setCell,Array.getElem?_modify,h]
theorem set_heap_other (w:World)(g i k:Nat)(v:Value)(h:k≠g):(w.setCell ⟨g,i,none⟩ v).heap[k]? =w.heap[k]? :=by
 simp[World.setCell,Array.getElem?_modify,h.symm]
theorem set_size (w:World)(a:Addr)(v:Value):(w.setCell a v).heap.size=w.heap.size:=by simp[World.setCell]
theorem cell_same {w w':World}{p:Addr}(h:w'.heap[p.block]? =w.heap[p.block]?):w'.cell? p=w.cell? p:=by unfold World.cell?;rw[h]
def Free (B n nb rb:Nat)(own:Option Nat)(g:Nat):Prop:=B≤g∧g<n∧g≠nb∧g≠rb∧some g≠own
structure Inv (w:World) (nb rb base:Nat) (t:Int) (k:RK) (wx:World):Prop where
 bel:Below w.heap.size w wx
 low:base≤wx.heap.size
 res:wx.heap[w.heap.size]? =some (.cells #[.int .u8 0,.slice none 0 0,.slice none 0 0] 43)
 row: ∃L ln lc,wx.heap[rb]? =some (.cells #[.slice L ln lc,.bool k.falls] 184)∧Bys w L ln k.last
 node: ∃v cs,wx.heap[nb]? =some (.cells #[.int .u8 t,.slice none 0 0,v] 43)∧wx.ownsRow base 43 3 v k.kids.length cs∧Trips (Free (w.heap.size+1) wx.heap.size nb rb v.ownBlock) wx k.kids cs
theorem Inv.drew {w:World}{nb rb base:Nat}{t:Int}{k:RK}{wx:World}(h:Inv w nb rb base t k wx):Inv w nb rb base t k wx.drew:=by
 obtain⟨a,b,c,d,v,cs,e1,e2,e3⟩:=h
 have hst:Stays (Free (w.heap.size+1) wx.heap.size nb rb v.ownBlock) wx wx.drew:=⟨lr_ wx.heap.size,fun p _ _=>rfl⟩
 have e4:=e3.stays hst
 exact⟨a.drew,b,c,d,v,cs,e1,e2,e4⟩
theorem Inv.mid {w:World}{nb rb base:Nat}{t:Int}{k:RK}{wx w1 w3 w4:World}(h:Inv w nb rb base t k wx)(hnr:nb≠rb)(hnb:nb<base)(hrb:rb<base)
 (hb1:Below wx.heap.size wx w1) (hb3:Below w1.heap.size w1 w3) {v:Value} {cs:List Value} (hv:wx.heap[nb]? =some (.cells #[.int .u8 t,.slice none 0 0,v] 43)) (hown:wx.ownsRow base 43 3 v k.kids.length cs)
 (hgr:w3.grownBy w4 v.ownBlock) (hP:w.heap.size<nb) (v':Value):
 w4.heap[nb]? =some (.cells #[.int .u8 t,.slice none 0 0,v] 43)∧RowAt (w4.setCell ⟨nb,2,none⟩ v') rb k.last k.falls∧Below w.heap.size w (w4.setCell ⟨nb,2,none⟩ v'):=by
 obtain⟨L,ln,lc,hrow,hlast⟩:=h.row
 have z1:=hb1.size
 have z3:=hb3.size
 have z4:=hgr.size
 have hlow:=h.low
 have hlt: ∀g,v.ownBlock=some g→base≤g∧g<wx.heap.size:=hown.lt
 have nv: ∀g,g<base→some g≠v.ownBlock:=fun g hg e=>by have:=(hlt g e.symm).1;omega
 have b4: ∀g,g<wx.heap.size→some g≠v.ownBlock→w4.heap[g]? =wx.heap[g]? :=fun g hg hne=>
  (hgr.block g (by omega) hne).trans ((hb3.block g (by omega)).trans (hb1.block g hg))
 have r4:=(b4 rb (by omega) (nv rb hrb)).trans hrow
 have n4:=(b4 nb (by omega) (nv nb hnb)).trans hv
 have bel4:Below w.heap.size w w4:=((h.bel.trans (hb1.mono h.bel.size)).trans (hb3.mono (by have:=h.bel.size;omega))).grown hgr (by have:=h.bel.size;omega) (fun j hj=>by have:=(hlt j hj).1;omega)
 have bel5:=bel4.setCell (show w.heap.size≤(⟨nb,2,none⟩:Addr).block from Nat.le_of_lt hP) v'
 have r5:=(set_heap_other w4 nb 2 rb v' (Ne.symm hnr)).trans r4
 refine⟨n4,⟨⟨L,ln,lc,?_,hlast.below bel5⟩,?_,fun x=>fh_ r5 x,?_⟩,bel5⟩
 ·rw[ch_ r5];rfl
 ·rw[ch_ r5];rfl
 ·rw[set_size];omega
theorem Inv.step {w:World}{nb rb base:Nat}{t:Int}{k:RK}{wx w1 w3 w4:World}(h:Inv w nb rb base t k wx)(hP:w.heap.size<nb)(hnr:nb≠rb)(hPr:w.heap.size<rb)(hnb:nb<base)(hrb:rb<base)
 (hb1:Below wx.heap.size wx w1) {n:Nd} {c0 c1 c2:Value} (hn:NdC (fun g=>wx.heap.size≤g) w1 n c0 c1 c2)
 (hb3:Below w1.heap.size w1 w3) {v:Value} {cs:List Value} (hv:wx.heap[nb]? =some (.cells #[.int .u8 t,.slice none 0 0,v] 43)) (hown:wx.ownsRow base 43 3 v k.kids.length cs) (htr:Trips (Free (w.heap.size+1) wx.heap.size nb rb v.ownBlock) wx k.kids cs)
 {v':Value} (hown':w4.ownsRow base 43 3 v' (k.kids.length+1) (cs++[c0,c1,c2])) (hgr:w3.grownBy w4 v.ownBlock) (hob:v'.ownBlock=v.ownBlock∨ ∃g',v'.ownBlock=some g'∧w3.heap.size≤g')
 {A:Option Addr} {m c:Nat} {b:List Int} (hA:Bys w A m b) (q:Nat):
 Inv w nb rb base t (k.add n b) ((((w4.setCell ⟨nb,2,none⟩ v').setCell ⟨rb,1,none⟩ (.bool (k.falls || behind k.last b))).setCell ⟨rb,0,none⟩ (.slice A m c)).drewN q):=by
 obtain⟨L,ln,lc,hrow,hlast⟩:=h.row
 have z1:=hb1.size
 have z3:=hb3.size
 have z4:=hgr.size
 have hlow:=h.low
 have hlt: ∀g,v.ownBlock=some g→base≤g∧g<wx.heap.size:=hown.lt
 have nv: ∀g,g<base→some g≠v.ownBlock:=fun g hg e=>by have:=(hlt g e.symm).1;omega
 have b4: ∀g,g<wx.heap.size→some g≠v.ownBlock→w4.heap[g]? =wx.heap[g]? :=fun g hg hne=>
  (hgr.block g (by omega) hne).trans ((hb3.block g (by omega)).trans (hb1.block g hg))
 have r4:=(b4 rb (by omega) (nv rb hrb)).trans hrow
 have n4:=(b4 nb (by omega) (nv nb hnb)).trans hv
 have p4:=(b4 w.heap.size (by have:=h.bel.size;omega) (nv _ (by omega))).trans h.res
 have bel4:Below w.heap.size w w4:=((h.bel.trans (hb1.mono h.bel.size)).trans (hb3.mono (by have:=h.bel.size;omega))).grown hgr (by have:=h.bel.size;omega) (fun j hj=>by have:=(hlt j hj).1;omega)
 have e1: ∀g,g≠nb→g≠rb→(((w4.setCell ⟨nb,2,none⟩ v').setCell ⟨rb,1,none⟩ (.bool (k.falls || behind k.last b))).setCell ⟨rb,0,none⟩ (.slice A m c)).heap[g]? =w4.heap[g]? :=fun g h1 h2=>by
  rw[set_heap_other _ _ _ _ _ h2,set_heap_other _ _ _ _ _ h2,set_heap_other _ _ _ _ _ h1]
 have sz:(((w4.setCell ⟨nb,2,none⟩ v').setCell ⟨rb,1,none⟩ (.bool (k.falls || behind k.last b))).setCell ⟨rb,0,none⟩ (.slice A m c)).heap.size=w4.heap.size:=by rw[set_size,set_size,set_size]
 have hst:Stays (Free (w.heap.size+1) wx.heap.size nb rb v.ownBlock) wx ((((w4.setCell ⟨nb,2,none⟩ v').setCell ⟨rb,1,none⟩ (.bool (k.falls || behind k.last b))).setCell ⟨rb,0,none⟩ (.slice A m c)).drewN q):=
  ⟨by rw[show(((((w4.setCell ⟨nb,2,none⟩ v').setCell ⟨rb,1,none⟩ (.bool (k.falls || behind k.last b))).setCell ⟨rb,0,none⟩ (.slice A m c)).drewN q)).heap.size=w4.heap.size from sz];omega,
    fun p hp hlt'=>cell_same ((e1 p.block hp.2.2.1 hp.2.2.2.1).trans (b4 p.block hlt' hp.2.2.2.2))⟩
 have hst1:Stays (fun g=>wx.heap.size≤g) w1 ((((w4.setCell ⟨nb,2,none⟩ v').setCell ⟨rb,1,none⟩ (.bool (k.falls || behind k.last b))).setCell ⟨rb,0,none⟩ (.slice A m c)).drewN q):=
  ⟨by rw[show(((((w4.setCell ⟨nb,2,none⟩ v').setCell ⟨rb,1,none⟩ (.bool (k.falls || behind k.last b))).setCell ⟨rb,0,none⟩ (.slice A m c)).drewN q)).heap.size=w4.heap.size from sz];omega,
    fun p hp hlt'=>by
     have hp:wx.heap.size≤p.block:=hp
     exact cell_same ((e1 p.block (by omega) (by omega)).trans ((hgr.block p.block (by omega) (fun e=>by have:=(hlt _ e.symm).2;omega)).trans (hb3.block p.block hlt')))⟩
 refine⟨?_,?_,?_,⟨A,m,c,?_,hA⟩,v',cs++[c0,c1,c2],?_,?_,?_⟩
 ·have:=((bel4.setCell (show w.heap.size≤(⟨nb,2,none⟩:Addr).block from Nat.le_of_lt hP) v').setCell (show w.heap.size≤(⟨rb,1,none⟩:Addr).block from Nat.le_of_lt hPr) (.bool (k.falls || behind k.last b))).setCell (show w.heap.size≤(⟨rb,0,none⟩:Addr).block from Nat.le_of_lt hPr) (.slice A m c)
  exact belowD this q
 ·rw[show(((((w4.setCell ⟨nb,2,none⟩ v').setCell ⟨rb,1,none⟩ (.bool (k.falls || behind k.last b))).setCell ⟨rb,0,none⟩ (.slice A m c)).drewN q)).heap.size=w4.heap.size from sz];omega
 ·exact(e1 _ (by omega) (by omega)).trans p4
 ·have s1:=set_heap_other w4 nb 2 rb v' (Ne.symm hnr)
  have s2:=set_heap (w4.setCell ⟨nb,2,none⟩ v') rb 1 (.bool (k.falls || behind k.last b)) _ _ _ (s1.trans r4)
  exact set_heap _ rb 0 (.slice A m c) _ _ _ s2
 ·have s1:=set_heap w4 nb 2 v' _ _ _ n4
  exact(set_heap_other _ rb 0 nb _ hnr).trans ((set_heap_other _ rb 1 nb _ hnr).trans s1)
 ·have hl:(k.add n b).kids.length=k.kids.length+1:=by simp[RK.add]
  rw[hl]
  refine⟨hown'.1,?_⟩
  rcases hown'.2 with hh | ⟨g,cap,cur,e,hbg,hg,r⟩
  ·exact .inl hh
  ·exact .inr ⟨g,cap,cur,e,hbg,(e1 g (by omega) (by omega)).trans hg,r⟩
 ·have hsz:(((((w4.setCell ⟨nb,2,none⟩ v').setCell ⟨rb,1,none⟩ (.bool (k.falls || behind k.last b))).setCell ⟨rb,0,none⟩ (.slice A m c)).drewN q)).heap.size=w4.heap.size:=sz
  have hne': ∀g,g<w3.heap.size→some g≠v.ownBlock→some g≠v'.ownBlock:=fun g hg hne e=>by
   rcases hob with h1 | ⟨g',h1,h2⟩
   ·exact hne (by rw[←h1];exact e)
   ·rw[h1] at e;cases e;omega
  rw[hsz]
  have told:=(htr.stays hst).mono (S':=Free (w.heap.size+1) w4.heap.size nb rb v'.ownBlock) fun g ⟨h1,h2,h3,h4,h5⟩=>⟨h1,by omega,h3,h4,hne' g (by omega) h5⟩
  exact told.snoc (NdC.below2 hst1 hn (fun g h1 h2=>⟨by have:=h.bel.size;omega,by omega,by omega,by omega,hne' g (by omega) (fun e=>by have:=(hlt _ e.symm).2;omega)⟩))
end Go.Proofs.YtkjkhoglkpepiaaGreatDoor.ndc
