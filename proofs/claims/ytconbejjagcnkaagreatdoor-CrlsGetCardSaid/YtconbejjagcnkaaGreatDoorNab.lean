/- What may be a value alone: the program's answer. -/
import Derived.Test.YtconbejjagcnkaaGreatDoorNa
import Derived.Test.YtconbejjagcnkaaGreatDoorIb
import Derived.Test.YtconbejjagcnkaaGreatDoorIc
import Derived.Test.YtconbejjagcnkaaGreatDoorXc
import Derived.Test.YtconbejjagcnkaaGreatDoorXb
namespace Go.Proofs.YtconbejjagcnkaaGreatDoor.ndc
open Go.RowKit Go.Proofs.YtconbejjagcnkaaGreatDoor.tlvc Go.Proofs.YtconbejjagcnkaaGreatDoor.txc Go.Proofs.YtconbejjagcnkaaGreatDoor.txm Go.Proofs.YtconbejjagcnkaaGreatDoor.intc Go.Proofs.YtconbejjagcnkaaGreatDoor.intm
set_option linter.unusedVariables false

/-- May a value have this tag and, if it is not compound, this body? -/
def mayF (t:Int)(xs:List Int):Bool:=
  if t=4∨t=48∨t=49 then true
  else if t=5 then decide (xs.length=0)
  else if t=3 then bitsB xs
  else if t=12∨t=19∨t=22∨t=27 then rightD t xs
  else if t=1 then decide ((boolF xs).2=0)
  else if t=2 then decide ((intF xs).2=0)
  else if t=6 then decide ((oidF xs).2=0)
  else if t=23∨t=24 then decide (timeE t xs=0)
  else decide (64≤t)
/-- What is wrong with a value that lies in so many others, whatever lies in it. -/
def aloneF (t:Int)(xs:List Int)(outer:Nat):Int:=
  if 32≤outer then 41 else if t%32=31 then 11 else if mayF t xs=true then 0 else 43
theorem belowD {B:Nat}{a w:World}(h:Below B a w): ∀q,Below B a (w.drewN q)
  |0=>h
  |q+1=>(belowD h q).drew
set_option maxRecDepth 100000 in
set_option maxHeartbeats 8000000 in
theorem may_any (t:Int)(A:Option Addr)(n c:Nat)(xs:List Int)(w:World)(ht:0≤t∧t≤255)(hx:Bys w A n xs)(hc:n≤c)(hm:c≤maxLen)(hT:Tabs w):
    Calls Tryz.prog 113 #[.int .u8 t,.slice A n c] w fun e w'=>e=.returned (.bool (mayF t xs))∧Below w.heap.size w w':=by
  have hn:n≤maxLen:=Nat.le_trans hc hm
  have hm9:c≤9223372036854775807:=by unfold maxLen at hm;omega
  by_cases h4:t=4
  · subst h4
    rw[show mayF 4 xs=true from rfl]
    go_enter Tryz.func113,Tryz.ntmps113
    go_wp2
    go_ret
    exact⟨rfl,Below.refl _ _⟩
  by_cases h48:t=48
  · subst h48
    rw[show mayF 48 xs=true from rfl]
    go_enter Tryz.func113,Tryz.ntmps113
    go_wp2
    go_ret
    exact⟨rfl,Below.refl _ _⟩
  by_cases h49:t=49
  · subst h49
    rw[show mayF 49 xs=true from rfl]
    go_enter Tryz.func113,Tryz.ntmps113
    go_wp2
    go_ret
    exact⟨rfl,Below.refl _ _⟩
  by_cases h5:t=5
  · subst h5
    rw[show mayF 5 xs=decide (xs.length=0) from rfl,hx.1]
    go_enter Tryz.func113,Tryz.ntmps113
    go_wp2
    go_ret
    exact⟨ret_b (by first |rfl | (rw[Bool.eq_iff_iff];simp)),Below.refl _ _⟩
  by_cases h3:t=3
  · subst h3
    rw[show mayF 3 xs=bitsB xs from rfl]
    have hb:=bitsMay_any A n c xs w hx hn
    obtain⟨k,hk⟩: ∃k,bitsB xs=k:=⟨_,rfl⟩
    rw[hk] at hb⊢
    have HB:=Lib.hid hb
    clear hb hk
    go_enter Tryz.func113,Tryz.ntmps113
    go_wp2_with fail
    refine HB.out.mono ?_
    rintro e w' ⟨rfl,q,rfl⟩
    go_wp2
    go_ret
    exact⟨rfl,belowD (Below.refl _ _) q⟩
  by_cases hr:t=12∨t=19∨t=22∨t=27
  · have e:mayF t xs=rightD t xs:=by rcases hr with rfl |rfl |rfl |rfl<;>rfl
    rw[e]
    have hb:=right_all t A n c xs w hx hn hT
    obtain⟨k,hk⟩: ∃k,rightD t xs=k:=⟨_,rfl⟩
    rw[hk] at hb⊢
    have HB:=Lib.hid hb
    clear hb hk e h4 h48 h49 h5 h3
    rcases hr with rfl |rfl |rfl |rfl
    all_goals
      go_enter Tryz.func113,Tryz.ntmps113
      go_wp2_with fail
      refine HB.out.mono ?_
      rintro e w' ⟨rfl,hb⟩
      go_wp2
      go_ret
      exact⟨rfl,hb⟩
  by_cases h1:t=1
  · subst h1
    rw[show mayF 1 xs=decide ((boolF xs).2=0) from rfl]
    have hb:=bool_any A n c xs w hx
    unfold Told at hb
    obtain⟨k,hk⟩: ∃k,boolF xs=k:=⟨_,rfl⟩
    rw[hk] at hb⊢
    obtain⟨k1,k2⟩:=k
    have HB:=Lib.hid hb
    clear hb hk
    go_enter Tryz.func113,Tryz.ntmps113
    go_wp2_with fail
    refine HB.out.mono ?_
    rintro e w' ⟨rfl,hb⟩
    go_wp2
    go_ret
    exact⟨ret_b (by first |rfl | (rw[Bool.eq_iff_iff];simp)),hb⟩
  by_cases h2:t=2
  · subst h2
    rw[show mayF 2 xs=decide ((intF xs).2=0) from rfl]
    have hb:=int_any A n c xs w hx hc hm
    unfold Told at hb
    obtain⟨k,hk⟩: ∃k,intF xs=k:=⟨_,rfl⟩
    rw[hk] at hb⊢
    obtain⟨k1,k2⟩:=k
    have HB:=Lib.hid hb
    clear hb hk
    go_enter Tryz.func113,Tryz.ntmps113
    go_wp2_with fail
    refine HB.out.mono ?_
    rintro e w' ⟨rfl,hb⟩
    go_wp2
    go_ret
    exact⟨ret_b (by first |rfl | (rw[Bool.eq_iff_iff];simp)),hb⟩
  by_cases h6:t=6
  · subst h6
    rw[show mayF 6 xs=decide ((oidF xs).2=0) from rfl]
    have hb:=oid_any A n c xs w hx hc hm
    unfold IOMade at hb
    obtain⟨k,hk⟩: ∃k,oidF xs=k:=⟨_,rfl⟩
    rw[hk] at hb⊢
    obtain⟨k1,k2⟩:=k
    have HB:=Lib.hid hb
    clear hb hk
    go_enter Tryz.func113,Tryz.ntmps113
    go_wp2_with fail
    refine HB.out.mono ?_
    rintro e w' ⟨A2,c2,rfl,_,hb⟩
    go_wp2
    go_ret
    exact⟨ret_b (by first |rfl | (rw[Bool.eq_iff_iff];simp)),hb⟩
  by_cases htm:t=23∨t=24
  · have e:mayF t xs=decide (timeE t xs=0):=by rcases htm with rfl |rfl<;>rfl
    rw[e]
    have hb:=Time_any t A n c xs w hx hc hm9
    obtain⟨k,hk⟩: ∃k,timeE t xs=k:=⟨_,rfl⟩
    obtain⟨j,hj⟩: ∃k,timeN t xs=k:=⟨_,rfl⟩
    rw[hk] at hb⊢
    rw[hj] at hb
    have HB:=Lib.hid hb
    clear hb hk hj e h4 h48 h49 h5 h3 h1 h2 h6
    rcases htm with rfl |rfl
    all_goals
      go_enter Tryz.func113,Tryz.ntmps113
      go_wp2_with fail
      refine HB.out.mono ?_
      rintro e w' ⟨rfl,hb⟩
      go_wp2
      go_ret
      exact⟨ret_b (by first |rfl | (rw[Bool.eq_iff_iff];simp)),hb⟩
  have e:mayF t xs=decide (64≤t):=by
    unfold mayF
    rw[if_neg (by rintro(h |h |h)<;>contradiction),if_neg h5,if_neg h3,if_neg hr,if_neg h1,if_neg h2,if_neg h6,if_neg htm]
  rw[e]
  have h12: ¬t=12:=fun h=>hr (.inl h)
  have h19: ¬t=19:=fun h=>hr (.inr (.inl h))
  have h22: ¬t=22:=fun h=>hr (.inr (.inr (.inl h)))
  have h27: ¬t=27:=fun h=>hr (.inr (.inr (.inr h)))
  have h23: ¬t=23:=fun h=>htm (.inl h)
  have h24: ¬t=24:=fun h=>htm (.inr h)
  clear hr htm e
  go_enter Tryz.func113,Tryz.ntmps113
  go_wp2
  go_ret
  exact⟨ret_b (by first |rfl | (rw[Bool.eq_iff_iff];simp)),Below.refl _ _⟩
set_option maxRecDepth 100000 in
set_option maxHeartbeats 4000000 in
theorem alone_any (t:Int)(A:Option Addr)(n c:Nat)(xs:List Int)(outer:Nat)(w:World)(ht:0≤t∧t≤255)(hx:Bys w A n xs)(hc:n≤c)(hm:c≤maxLen)(hT:Tabs w):
    Calls Tryz.prog 76 #[.int .u8 t,.slice A n c,.int .i64 outer] w fun e w'=>e=.returned (.int .i64 (aloneF t xs outer))∧Below w.heap.size w w':=by
  unfold aloneF
  by_cases hd:32≤outer
  · rw[if_pos hd]
    have hdz:(32:Int)≤(outer:Int):=by omega
    go_enter Tryz.func76,Tryz.ntmps76
    go_wp2
    go_ret
    exact⟨rfl,Below.refl _ _⟩
  · rw[if_neg hd]
    have hdz: ¬(32:Int)≤(outer:Int):=by omega
    by_cases hk:t%32=31
    · rw[if_pos hk]
      go_enter Tryz.func76,Tryz.ntmps76
      go_wp2
      go_ret
      exact⟨rfl,Below.refl _ _⟩
    · rw[if_neg hk]
      have hb:=may_any t A n c xs w ht hx hc hm hT
      obtain⟨k,hkk⟩: ∃k,mayF t xs=k:=⟨_,rfl⟩
      rw[hkk] at hb⊢
      have HB:=Lib.hid hb
      have hkb:(t%32==31)=false:=by simpa using hk
      clear hb hkk
      cases k
      all_goals
        go_enter Tryz.func76,Tryz.ntmps76
        go_wp2_with fail
        refine HB.out.mono ?_
        rintro e w' ⟨rfl,hb⟩
        go_wp2
        go_ret
        exact⟨rfl,hb⟩
end Go.Proofs.YtconbejjagcnkaaGreatDoor.ndc
