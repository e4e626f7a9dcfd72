/- What each law of nodes asks first: the live question. The do -/
import Derived.Test.YtkjkhoglkpepiaaGreatDoorNc
import Derived.Test.YtkjkhoglkpepiaaGreatDoorIa
import Derived.Lib.SlBytesConst
import Derived.Test.YtkjkhoglkpepiaaGreatDoorNb
import Derived.Test.YtkjkhoglkpepiaaGreatDoorXv
import Derived.Test.YtkjkhoglkpepiaaGreatDoorId
import Derived.Test.YtkjkhoglkpepiaaGreatDoorIb
import Derived.Test.YtkjkhoglkpepiaaGreatDoorXh
set_option maxRecDepth 100000
set_option maxHeartbeats 8000000
set_option linter.unusedVariables false
set_option linter.unusedSimpArgs false
namespace Go.Proofs.YtkjkhoglkpepiaaGreatDoor.ndc
open Go.RowKit tlvc txc
end Go.Proofs.YtkjkhoglkpepiaaGreatDoor.ndc
namespace Go.Proofs.YtkjkhoglkpepiaaGreatDoor.ndc
open Go.RowKit tlvc txc txm intc intm
def Uni (t:Int):Prop:=t=1∨t=2∨t=3∨t=4∨t=5∨t=6∨t=12∨t=19∨t=22∨t=23∨t=24∨t=27∨t=48∨t=49
instance (t:Int):Decidable (Uni t):=by unfold Uni;infer_instance
def tagF (t:Int):Int:=if t%32=31 then 11 else if 64≤t then 0 else if Uni t then 0 else 43
def bodyB (t:Int)(xs:List Int):Bool:=
 if t=1 then decide ((boolF xs).2=0)
 else if t=2 then decide ((intF xs).2=0)
 else if t=6 then decide ((oidF xs).2=0)
 else if t=23∨t=24 then decide (timeE t xs=0)
 else if t=5 then decide (xs.length=0)
 else if t=12∨t=19∨t=22∨t=27 then rightD t xs
 else if t=3 then bitsB xs
 else true
def bodyF (t:Int)(xs:List Int):Int:=if bodyB t xs=true then 0 else 43
def ownF (t:Int)(xs:List Int):Int:=if t%32=31 then 11 else if mayF t xs=true then 0 else 43
theorem aloneF_own (t:Int)(xs:List Int)(outer:Nat):aloneF t xs outer=if 32≤outer then 41 else ownF t xs:=rfl
theorem may_of {t:Int}{xs:List Int}(h:Uni t):mayF t xs=bodyB t xs∨(t=48∨t=49):=by
 unfold Uni at h
 rcases h with rfl |rfl |rfl |rfl |rfl |rfl |rfl |rfl |rfl |rfl |rfl |rfl |rfl |rfl
 all_goals first |exact .inl rfl |exact .inr (.inl rfl) |exact .inr (.inr rfl)
theorem may_not {t:Int}{xs:List Int}(h: ¬Uni t):mayF t xs=decide (64≤t):=by
 unfold Uni at h
 unfold mayF
 rw[if_neg (by omega),if_neg (by omega),if_neg (by omega),if_neg (by omega),if_neg (by omega),if_neg (by omega),if_neg (by omega),if_neg (by omega)]
theorem body_not {t:Int}{xs:List Int}(h: ¬Uni t):bodyB t xs=true:=by
 unfold Uni at h
 unfold bodyB
 rw[if_neg (by omega),if_neg (by omega),if_neg (by omega),if_neg (by omega),if_neg (by omega),if_neg (by omega),if_neg (by omega)]
theorem uni_small {t:Int}(h:Uni t): ¬64≤t:=by unfold Uni at h;omega
theorem own_plain {t:Int}{xs:List Int}(hc:t≠48∧t≠49):(if tagF t=0 then bodyF t xs else tagF t)=ownF t xs:=by
 unfold tagF ownF
 by_cases h31:t%32=31
 ·rw[if_pos h31,if_pos h31];rfl
 ·rw[if_neg h31,if_neg h31]
  by_cases hu:Uni t
  ·rw[if_neg (uni_small hu),if_pos hu,if_pos rfl]
   rcases may_of (xs:=xs) hu with h |h
   ·unfold bodyF;rw[h]
   ·omega
  ·rw[if_neg hu,may_not hu]
   by_cases h64:64≤t
   ·rw[if_pos h64,if_pos rfl,if_pos (decide_eq_true h64)]
    unfold bodyF;rw[if_pos (body_not hu)]
   ·rw[if_neg h64,if_neg (by decide),if_neg (by rw[decide_eq_false h64];decide)]
theorem own_comp {t:Int}{xs:List Int}(hc:32≤t%64):tagF t=ownF t xs:=by
 unfold tagF ownF
 by_cases h31:t%32=31
 ·rw[if_pos h31,if_pos h31]
 ·rw[if_neg h31,if_neg h31]
  by_cases hu:Uni t
  ·rw[if_neg (uni_small hu),if_pos hu]
   have:t=48∨t=49:=by unfold Uni at hu;omega
   rcases this with rfl |rfl<;>rfl
  ·rw[if_neg hu,may_not hu]
   by_cases h64:64≤t
   ·rw[if_pos h64,if_pos (decide_eq_true h64)]
   ·rw[if_neg h64,if_neg (by rw[decide_eq_false h64];decide)]
theorem refTag_any (t:Int)(w:World)(ht:0≤t∧t≤255):
 Calls Tryz.prog 71 #[.int .u8 t] w fun e w'=>e=.returned (.int .i64 (tagF t))∧w=w':=by
 unfold tagF
 by_cases h31:t%32=31
 ·rw[if_pos h31]
  go_enter Tryz.func71,Tryz.ntmps71
  go_wp2
  go_ret
  exact⟨rfl,rfl⟩
 ·rw[if_neg h31]
  have h31b:(t%32==31)=false:=by simpa using h31
  by_cases h64:64≤t
  ·rw[if_pos h64]
   go_enter Tryz.func71,Tryz.ntmps71
   go_wp2
   go_ret
   exact⟨rfl,rfl⟩
  ·rw[if_neg h64]
   by_cases hu:Uni t
   ·rw[if_pos hu]
    clear h31 h31b h64
    unfold Uni at hu
    rcases hu with rfl |rfl |rfl |rfl |rfl |rfl |rfl |rfl |rfl |rfl |rfl |rfl |rfl |rfl
    all_goals
     go_enter Tryz.func71,Tryz.ntmps71
     go_wp2
     go_ret
     exact⟨rfl,rfl⟩
   ·rw[if_neg hu]
    have u1: ¬t=1:=fun h=>hu (by unfold Uni;omega)
    have u2: ¬t=2:=fun h=>hu (by unfold Uni;omega)
    have u3: ¬t=3:=fun h=>hu (by unfold Uni;omega)
    have u4: ¬t=4:=fun h=>hu (by unfold Uni;omega)
    have u5: ¬t=5:=fun h=>hu (by unfold Uni;omega)
    have u6: ¬t=6:=fun h=>hu (by unfold Uni;omega)
    have u12: ¬t=12:=fun h=>hu (by unfold Uni;omega)
    have u19: ¬t=19:=fun h=>hu (by unfold Uni;omega)
    have u22: ¬t=22:=fun h=>hu (by unfold Uni;omega)
    have u23: ¬t=23:=fun h=>hu (by unfold Uni;omega)
    have u24: ¬t=24:=fun h=>hu (by unfold Uni;omega)
    have u27: ¬t=27:=fun h=>hu (by unfold Uni;omega)
    have u48: ¬t=48:=fun h=>hu (by unfold Uni;omega)
    have u49: ¬t=49:=fun h=>hu (by unfold Uni;omega)
    clear hu
    go_enter Tryz.func71,Tryz.ntmps71
    go_wp2
    go_ret
    exact⟨rfl,rfl⟩
def TimeH (t:Int):Prop:=(t=23∨t=24)→∀(A:Option Addr) (n c:Nat) (xs:List Int) (w:World),Bys w A n xs→n≤c→c≤9223372036854775807→Calls Tryz.prog 154 #[.int .u8 t,.slice A n c] w (TimeIs t xs w)
theorem refBodyH_any (t:Int)(A:Option Addr)(n c:Nat)(xs:List Int)(w:World)(ht:0≤t∧t≤255)(hx:Bys w A n xs)(hc:n≤c)(hm:c≤maxLen)(hT:Tabs w)(hTm:TimeH t):
 Calls Tryz.prog 72 #[.int .u8 t,.slice A n c] w fun e w'=>e=.returned (.int .i64 (bodyF t xs))∧Below w.heap.size w w':=by
 have HTm:=hd_ hTm
 clear hTm
 have hn:n≤maxLen:=Nat.le_trans hc hm
 have hm9:c≤9223372036854775807:=by unfold maxLen at hm;omega
 unfold bodyF
 by_cases h1:t=1
 ·subst h1
  rw[show bodyB 1 xs=decide ((boolF xs).2=0) from rfl]
  have hb:=refBool_any A n c xs w hx
  unfold Same2 at hb
  obtain⟨k,hk⟩:=nm_ (boolF xs)
  rw[hk] at hb⊢
  obtain⟨k1,k2⟩:=k
  have HB:=hd_ hb
  clear hb hk
  by_cases hk2:k2=0
  ·subst hk2
   rw[if_pos (decide_eq_true rfl)]
   go_enter Tryz.func72,Tryz.ntmps72
   go_wp2_with fail
   refine HB.out.mono ?_
   rintro e w' ⟨rfl,rfl⟩
   go_wp2
   go_ret
   exact⟨rfl,br_ _ _⟩
  ·have hk3:(k2==0)=false:=by simpa using hk2
   rw[if_neg (by rw[decide_eq_false hk2];decide)]
   go_enter Tryz.func72,Tryz.ntmps72
   go_wp2_with fail
   refine HB.out.mono ?_
   rintro e w' ⟨rfl,rfl⟩
   go_wp2
   go_ret
   exact⟨rfl,br_ _ _⟩
 by_cases h2:t=2
 ·subst h2
  rw[show bodyB 2 xs=decide ((intF xs).2=0) from rfl]
  have hb:=refInt_any A n c xs w hx hc hm
  unfold Same2 at hb
  obtain⟨k,hk⟩:=nm_ (intF xs)
  rw[hk] at hb⊢
  obtain⟨k1,k2⟩:=k
  have HB:=hd_ hb
  clear hb hk
  by_cases hk2:k2=0
  ·subst hk2
   rw[if_pos (decide_eq_true rfl)]
   go_enter Tryz.func72,Tryz.ntmps72
   go_wp2_with fail
   refine HB.out.mono ?_
   rintro e w' ⟨rfl,rfl⟩
   go_wp2
   go_ret
   exact⟨rfl,br_ _ _⟩
  ·have hk3:(k2==0)=false:=by simpa using hk2
   rw[if_neg (by rw[decide_eq_false hk2];decide)]
   go_enter Tryz.func72,Tryz.ntmps72
   go_wp2_with fail
   refine HB.out.mono ?_
   rintro e w' ⟨rfl,rfl⟩
   go_wp2
   go_ret
   exact⟨rfl,br_ _ _⟩
 by_cases h6:t=6
 ·subst h6
  rw[show bodyB 6 xs=decide ((oidF xs).2=0) from rfl]
  have hb:=refOID_any A n c xs w hx hc hm
  unfold IOMade at hb
  obtain⟨k,hk⟩:=nm_ (oidF xs)
  rw[hk] at hb⊢
  obtain⟨k1,k2⟩:=k
  have HB:=hd_ hb
  clear hb hk
  by_cases hk2:k2=0
  ·subst hk2
   rw[if_pos (decide_eq_true rfl)]
   go_enter Tryz.func72,Tryz.ntmps72
   go_wp2_with fail
   refine HB.out.mono ?_
   rintro e w' ⟨A2,c2,rfl,_,hb⟩
   go_wp2
   go_ret
   exact⟨rfl,hb⟩
  ·have hk3:(k2==0)=false:=by simpa using hk2
   rw[if_neg (by rw[decide_eq_false hk2];decide)]
   go_enter Tryz.func72,Tryz.ntmps72
   go_wp2_with fail
   refine HB.out.mono ?_
   rintro e w' ⟨A2,c2,rfl,_,hb⟩
   go_wp2
   go_ret
   exact⟨rfl,hb⟩
 by_cases htm:t=23∨t=24
 ·have e:bodyB t xs=decide (timeE t xs=0):=by rcases htm with rfl |rfl<;>rfl
  rw[e]
  have hb:=HTm.out htm A n c xs w hx hc hm9
  unfold TimeIs at hb
  obtain⟨k,hk⟩:=nm_ (timeE t xs)
  obtain⟨j,hj⟩:=nm_ (timeN t xs)
  rw[hk] at hb⊢
  rw[hj] at hb
  have HB:=hd_ hb
  clear hb hk hj e
  by_cases hk2:k=0
  ·subst hk2
   rw[if_pos (decide_eq_true rfl)]
   rcases htm with rfl |rfl
   all_goals
    go_enter Tryz.func72,Tryz.ntmps72
    go_wp2_with fail
    refine HB.out.mono ?_
    rintro e w' ⟨rfl,hb⟩
    go_wp2
    go_ret
    exact⟨rfl,hb⟩
  ·have hk3:(k==0)=false:=by simpa using hk2
   rw[if_neg (by rw[decide_eq_false hk2];decide)]
   rcases htm with rfl |rfl
   all_goals
    go_enter Tryz.func72,Tryz.ntmps72
    go_wp2_with fail
    refine HB.out.mono ?_
    rintro e w' ⟨rfl,hb⟩
    go_wp2
    go_ret
    exact⟨rfl,hb⟩
 by_cases h5:t=5
 ·subst h5
  rw[show bodyB 5 xs=decide (xs.length=0) from rfl,hx.1]
  by_cases h0:n=0
  ·subst h0
   rw[if_pos (decide_eq_true rfl)]
   go_enter Tryz.func72,Tryz.ntmps72
   go_wp2
   go_ret
   exact⟨rfl,br_ _ _⟩
  ·have h0z:(0:Int)< (n:Int):=by omega
   have h0n:0<n:=by omega
   rw[if_neg (by rw[decide_eq_false h0];decide)]
   go_enter Tryz.func72,Tryz.ntmps72
   go_wp2
   go_ret
   exact⟨rfl,br_ _ _⟩
 by_cases hr:t=12∨t=19∨t=22∨t=27
 ·have e:bodyB t xs=rightD t xs:=by rcases hr with rfl |rfl |rfl |rfl<;>rfl
  rw[e]
  have hb:=refRight_any t A n c xs w hx hc hm hT
  obtain⟨k,hk⟩:=nm_ (rightD t xs)
  rw[hk] at hb⊢
  have HB:=hd_ hb
  clear hb hk e h1 h2 h6 htm h5
  cases k
  all_goals
   rcases hr with rfl |rfl |rfl |rfl
   all_goals
    go_enter Tryz.func72,Tryz.ntmps72
    go_wp2_with fail
    refine HB.out.mono ?_
    rintro e w' ⟨rfl,hb⟩
    go_wp2
    go_ret
    exact⟨rfl,hb⟩
 by_cases h3:t=3
 ·subst h3
  rw[show bodyB 3 xs=bitsB xs from rfl]
  have hb:=refBits_any A n c xs w hx hn
  obtain⟨k,hk⟩:=nm_ (bitsB xs)
  rw[hk] at hb⊢
  have HB:=hd_ hb
  clear hb hk
  cases k
  all_goals
   go_enter Tryz.func72,Tryz.ntmps72
   go_wp2_with fail
   refine HB.out.mono ?_
   rintro e w' ⟨rfl,q,rfl⟩
   go_wp2
   go_ret
   exact⟨rfl,belowD (br_ _ _) q⟩
 have e:bodyB t xs=true:=by
  unfold bodyB
  rw[if_neg h1,if_neg h2,if_neg h6,if_neg htm,if_neg h5,if_neg hr,if_neg h3]
 rw[e,if_pos rfl]
 have h12: ¬t=12:=fun h=>hr (.inl h)
 have h19: ¬t=19:=fun h=>hr (.inr (.inl h))
 have h22: ¬t=22:=fun h=>hr (.inr (.inr (.inl h)))
 have h27: ¬t=27:=fun h=>hr (.inr (.inr (.inr h)))
 have h23: ¬t=23:=fun h=>htm (.inl h)
 have h24: ¬t=24:=fun h=>htm (.inr h)
 clear hr htm e
 go_enter Tryz.func72,Tryz.ntmps72
 go_wp2
 go_ret
 exact⟨rfl,br_ _ _⟩
end Go.Proofs.YtkjkhoglkpepiaaGreatDoor.ndc
