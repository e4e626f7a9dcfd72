/- Plain facts on the calendar: days from the beginning of 1950 -/
import Derived.Test.YtkjkhoglkpepiaaGreatDoorXa
import Derived.StillTailTactics
import Derived.BigQuiet
import Derived.Deep.QuietTactic
set_option maxRecDepth 100000
set_option maxHeartbeats 4000000
set_option linter.unusedVariables false
set_option linter.unusedSimpArgs false
namespace Go.Proofs.YtkjkhoglkpepiaaGreatDoor.txm
def lp4 (y:Int):Int:=(y - 1) / 4 - (y - 1) / 100+ (y - 1) / 400
def lpG (y:Int):Int:=(y - 1).tdiv 4 - (y - 1).tdiv 100+ (y - 1).tdiv 400
theorem lpG_pos {y:Int}(h:1≤y):lpG y=lp4 y:=by
 unfold lpG lp4
 rw[Int.tdiv_eq_ediv_of_nonneg (by omega),Int.tdiv_eq_ediv_of_nonneg (by omega),Int.tdiv_eq_ediv_of_nonneg (by omega)]
theorem lp4_bd {y:Int}(h:1≤y)(h2:y≤1000000):0≤lp4 y∧lp4 y≤250000:=by unfold lp4;omega
theorem lpG_bd {y:Int}(h:0≤y)(h2:y≤1000000):0≤lpG y∧lpG y≤250000:=by
 by_cases h0:y=0
 ·subst h0;decide
 ·rw[lpG_pos (by omega)];exact lp4_bd (by omega) h2
def lp (y:Int):Int:=lpG (y+1) - lpG y
theorem lp_01 {y:Int}(h:0≤y):0≤lp y∧lp y≤1:=by
 unfold lp
 by_cases h0:y=0
 ·subst h0;decide
 ·rw[lpG_pos (by omega),lpG_pos (by omega)];unfold lp4;omega
def dto (y:Int):Int:=365* (y - 1950)+lpG y - 472
theorem dto_pos {y:Int}(h:1≤y):dto y=365* (y - 1950)+ ((y - 1) / 4 - (y - 1) / 100+ (y - 1) / 400) - 472:=by
 unfold dto;rw[lpG_pos h];rfl
theorem dto_bd {y:Int}(h:0≤y)(h2:y≤1000000): -712222≤dto y∧dto y≤364538028:=by
 have:=lpG_bd h h2
 unfold dto;omega
theorem dto_step {y:Int}:dto (y+1)=dto y+365+lp y:=by unfold dto lp;omega
theorem dto_mono {a b:Int}(h:1≤a)(h2:a≤b):dto a≤dto b:=by rw[dto_pos h,dto_pos (by omega)];omega
theorem dto_1950:dto 1950=0:=by decide
theorem dto_2050:dto 2050=36525:=by decide
theorem dto_10000:dto 10000=2940202:=by decide
theorem dto_guess {d:Int}(h:0≤d):dto (1950+d/ 366)≤d:=by rw[dto_pos (by omega)];omega
theorem guess_bd {d:Int}(h:0≤d)(h2:d<2940202):1950≤1950+d/ 366∧1950+d/ 366≤9999:=by omega
def yearF:Nat→Int→Int→Int
 |0,y,_=>y
 |n+1,y,d=>if dto (y+1)≤d then yearF n (y+1) d else y
def yearOf (d:Int):Int:=yearF 8050 1950 d
theorem yearF_spec: ∀(n:Nat) (y d:Int),1950≤y→y+n=10000→dto y≤d→d<2940202→dto (yearF n y d)≤d∧d<dto (yearF n y d+1)∧1950≤yearF n y d∧(yearF n y d≤9999)
 |0,y,d,h1,h2,h3,h4=>by
  have:y=10000:=by omega
  subst this
  rw[dto_10000] at h3;omega
 |n+1,y,d,h1,h2,h3,h4=>by
  unfold yearF
  split
  ·exact yearF_spec n (y+1) d (by omega) (by omega) (by assumption) h4
  ·exact⟨h3,by omega,h1,by omega⟩
theorem yearOf_spec {d:Int}(h:0≤d)(h2:d<2940202):dto (yearOf d)≤d∧d<dto (yearOf d+1)∧1950≤yearOf d∧yearOf d≤9999:=
 yearF_spec 8050 1950 d (by omega) (by omega) (by rw[dto_1950];exact h) h2
theorem yearOf_uniq {d y:Int}(h:0≤d)(h2:d<2940202)(hy:1≤y)(h3:dto y≤d)(h4:d<dto (y+1)):y=yearOf d:=by
 obtain⟨a,b,c,_⟩:=yearOf_spec h h2
 rcases Int.lt_trichotomy y (yearOf d) with hl |he |hg
 ·have:=dto_mono (a:=y+1) (b:=yearOf d) (by omega) (by omega);omega
 ·exact he
 ·have:=dto_mono (a:=yearOf d+1) (b:=y) (by omega) (by omega);omega
def mon (l:Int):Nat→Int
 |0=>31 |1=>28+l |2=>31 |3=>30 |4=>31 |5=>30 |6=>31 |7=>31 |8=>30 |9=>31 |10=>30 |_=>31
def cum (l:Int):Nat→Int
 |0=>0 |1=>31 |2=>59+l |3=>90+l |4=>120+l |5=>151+l |6=>181+l |7=>212+l |8=>243+l |9=>273+l |10=>304+l |11=>334+l |_=>365+l
theorem twelve {i:Nat}(h:i<12):i=0∨i=1∨i=2∨i=3∨i=4∨i=5∨i=6∨i=7∨i=8∨i=9∨i=10∨i=11:=by omega
theorem cum_step (l:Int){i:Nat}(h:i<12):cum l (i+1)=cum l i+mon l i:=by
 rcases twelve h with rfl |rfl |rfl |rfl |rfl |rfl |rfl |rfl |rfl |rfl |rfl |rfl<;>simp only[cum,mon]<;>omega
theorem mon_bd {l:Int}(h0:0≤l)(h1:l≤1)(i:Nat):28≤mon l i∧mon l i≤31:=by
 unfold mon;split<;>omega
theorem cum_bd {l:Int}(h0:0≤l)(h1:l≤1)(i:Nat):0≤cum l i∧cum l i≤366:=by
 unfold cum;split<;>omega
theorem cum_12 (l:Int):cum l 12=365+l:=rfl
theorem cum_mono {l:Int}(h0:0≤l)(h1:l≤1): ∀(j i:Nat),i≤j→j≤12→cum l i≤cum l j
 |0,i,h,_=>by
  have:i=0:=by omega
  subst this;exact Int.le_refl _
 |j+1,i,h,hj=>by
  by_cases e:i=j+1
  ·subst e;exact Int.le_refl _
  ·have:=cum_mono h0 h1 j i (by omega) (by omega)
   have:=cum_step l (i:=j) (by omega)
   have:=mon_bd h0 h1 j
   omega
def monF (l r:Int):Nat→Nat→Nat
 |0,i=>i
 |n+1,i=>if r<cum l (i+1) then i else monF l r n (i+1)
def monOf (l r:Int):Nat:=monF l r 12 0
theorem monF_spec {l r:Int}(hr:r<365+l): ∀(n i:Nat),i+n=12→cum l i≤r→cum l (monF l r n i)≤r∧r<cum l (monF l r n i+1)∧monF l r n i<12
 |0,i,h,h2=>by
  have:i=12:=by omega
  subst this
  rw[cum_12] at h2;omega
 |n+1,i,h,h2=>by
  unfold monF
  split
  ·exact⟨h2,by assumption,by omega⟩
  ·exact monF_spec hr n (i+1) (by omega) (by omega)
theorem monOf_spec {l r:Int}(h:0≤r)(hr:r<365+l):cum l (monOf l r)≤r∧r<cum l (monOf l r+1)∧monOf l r<12:=
 monF_spec hr 12 0 rfl h
theorem monOf_uniq {l r:Int}{i:Nat}(h0:0≤l)(h1:l≤1)(h:0≤r)(hr:r<365+l)(hi:i<12)(h3:cum l i≤r)(h4:r<cum l (i+1)):i=monOf l r:=by
 obtain⟨a,b,c⟩:=monOf_spec h hr
 rcases Nat.lt_trichotomy i (monOf l r) with hl |he |hg
 ·have:=cum_mono h0 h1 (monOf l r) (i+1) (by omega) (by omega);omega
 ·exact he
 ·have:=cum_mono h0 h1 i (monOf l r+1) (by omega) (by omega);omega
theorem lp_eq {y:Int}(h:1≤y):lp y=(y/ 4 - (y - 1) / 4) - (y/ 100 - (y - 1) / 100)+ (y/ 400 - (y - 1) / 400):=by
 unfold lp;rw[lpG_pos (by omega),lpG_pos (by omega)];unfold lp4;rw[Int.add_sub_cancel];omega
theorem step4 (y:Int):y/ 4 - (y - 1) / 4=if y%4=0 then 1 else 0:=by split<;>omega
theorem step100 (y:Int):y/ 100 - (y - 1) / 100=if y%100=0 then 1 else 0:=by split<;>omega
theorem step400 (y:Int):y/ 400 - (y - 1) / 400=if y%400=0 then 1 else 0:=by split<;>omega
theorem lp_if {y:Int}(h:1≤y):lp y=(if y%4=0 then 1 else 0) - (if y%100=0 then 1 else 0)+ (if y%400=0 then 1 else 0):=by rw[lp_eq h,step4,step100,step400]
theorem m4 {y:Int}(h: ¬y%4=0): ¬y%100=0∧¬y%400=0:=by omega
theorem m100 {y:Int}(h: ¬y%100=0): ¬y%400=0:=by omega
theorem lp_a {y:Int}(h:1≤y)(h4: ¬y%4=0):lp y=0:=by rw[lp_if h,if_neg h4,if_neg (m4 h4).1,if_neg (m4 h4).2];rfl
theorem lp_b {y:Int}(h:1≤y)(h4:y%4=0)(h1: ¬y%100=0):lp y=1:=by rw[lp_if h,if_pos h4,if_neg h1,if_neg (m100 h1)];rfl
theorem lp_c {y:Int}(h:1≤y)(h4:y%4=0)(h1:y%100=0)(h2: ¬y%400=0):lp y=0:=by rw[lp_if h,if_pos h4,if_pos h1,if_neg h2];rfl
theorem lp_d {y:Int}(h:1≤y)(h4:y%4=0)(h1:y%100=0)(h2:y%400=0):lp y=1:=by rw[lp_if h,if_pos h4,if_pos h1,if_pos h2];rfl
end Go.Proofs.YtkjkhoglkpepiaaGreatDoor.txm
namespace Go.Proofs.YtkjkhoglkpepiaaGreatDoor.txm
def wr2 (n:Int):List Int:=[48+n/ 10,48+n%10]
def dayOf (sec:Int):Int:=(sec+631152000) / 86400
def yOf (sec:Int):Int:=yearOf (dayOf sec)
def rOf (sec:Int):Int:=dayOf sec - dto (yOf sec)
def mOf (sec:Int):Nat:=monOf (lp (yOf sec)) (rOf sec)
def clk (sec:Int):List Int:=
 [yOf sec/ 100,yOf sec%100,(mOf sec:Int)+1,rOf sec - cum (lp (yOf sec)) (mOf sec)+1,(sec+631152000) / 60/ 60%24,(sec+631152000) / 60%60,(sec+631152000)%60]
def tagOf (sec:Int):Int:=if 2524608000≤sec then 24 else 23
def wrs (tag:Int)(c:List Int):List Int:=(if tag=23 then c.drop 1 else c).flatMap wr2++[90]
def bodyOf (sec:Int):List Int:=wrs (tagOf sec) (clk sec)
def InR (sec:Int):Prop:= -631152000≤sec∧sec≤253402300799
def Flds (c:List Int):Prop:=∀x∈c,0≤x∧x≤99
theorem dayOf_bd {s:Int}(h:InR s):0≤dayOf s∧dayOf s<2940202:=by unfold InR at h;unfold dayOf;omega
theorem y_spec {s:Int}(h:InR s):dto (yOf s)≤dayOf s∧dayOf s<dto (yOf s+1)∧1950≤yOf s∧yOf s≤9999:=
 yearOf_spec (dayOf_bd h).1 (dayOf_bd h).2
theorem lp_y {s:Int}(h:InR s):0≤lp (yOf s)∧lp (yOf s)≤1:=lp_01 (by have:=y_spec h;omega)
theorem r_bd {s:Int}(h:InR s):0≤rOf s∧rOf s<365+lp (yOf s):=by
 obtain⟨a,b,_⟩:=y_spec h
 rw[dto_step] at b
 unfold rOf;omega
theorem m_spec {s:Int}(h:InR s):cum (lp (yOf s)) (mOf s)≤rOf s∧rOf s<cum (lp (yOf s)) (mOf s+1)∧mOf s<12:=
 monOf_spec (r_bd h).1 (r_bd h).2
theorem d_bd {s:Int}(h:InR s):0≤rOf s - cum (lp (yOf s)) (mOf s)∧rOf s - cum (lp (yOf s)) (mOf s)<mon (lp (yOf s)) (mOf s)∧rOf s - cum (lp (yOf s)) (mOf s)≤30:=by
 obtain⟨a,b,c⟩:=m_spec h
 rw[cum_step _ c] at b
 have:=mon_bd (lp_y h).1 (lp_y h).2 (mOf s)
 omega
theorem clk_flds {s:Int}(h:InR s):Flds (clk s):=by
 have hy:=y_spec h
 have hm:=(m_spec h).2.2
 have hd:=d_bd h
 intro x hx
 simp only[clk,List.mem_cons,List.not_mem_nil,or_false] at hx
 rcases hx with rfl |rfl |rfl |rfl |rfl |rfl |rfl<;>omega
theorem tag_year {s:Int}(h:InR s):(2524608000≤s)↔2050≤yOf s:=by
 obtain⟨a,b,c,d⟩:=y_spec h
 unfold dayOf at a b
 constructor
 ·intro hs
  by_cases e:2050≤yOf s
  ·exact e
  ·have:=dto_mono (a:=yOf s+1) (b:=2050) (by omega) (by omega)
   rw[dto_2050] at this
   omega
 ·intro hs
  have:=dto_mono (a:=2050) (b:=yOf s) (by omega) hs
  rw[dto_2050] at this
  omega
def dgt (x:Int):Int:=(x - 48)%256
def pr (xs:List Int)(j:Nat):Int:=if 2*j+2≤xs.length then 10*dgt (xs.getD (2*j) 0)+dgt (xs.getD (2*j+1) 0) else 0
def cent (n:Int):Int:=if 50≤n then 19 else 20
def fldsOf (tag:Int)(xs:List Int):List Int:=
 if tag=23 then [cent (pr xs 0),pr xs 0,pr xs 1,pr xs 2,pr xs 3,pr xs 4,pr xs 5] else [pr xs 0,pr xs 1,pr xs 2,pr xs 3,pr xs 4,pr xs 5,pr xs 6]
def mIx (m:Int):Nat:=min (m - 1).toNat 12
def daysAt (y m d:Int):Int:=dto y+d - 1+cum (lp y) (mIx m)
def secAt (y m d h n s:Int):Int:= -631152000+ ((daysAt y m d*24+h)*60+n)*60+s
def secOf (c:List Int):Int:=secAt (100*c.getD 0 0+c.getD 1 0) (c.getD 2 0) (c.getD 3 0) (c.getD 4 0) (c.getD 5 0) (c.getD 6 0)
theorem dgt_lo {n:Int}(h:0≤n)(h2:n≤99):dgt (48+n/ 10)=n/ 10∧dgt (48+n%10)=n%10:=by unfold dgt;omega
theorem ten {n:Int}:10* (n/ 10)+n%10=n:=by omega
theorem pr_wr {a:Int}(h:0≤a)(h2:a≤99):10*dgt (48+a/ 10)+dgt (48+a%10)=a:=by rw[(dgt_lo h h2).1,(dgt_lo h h2).2];exact ten
theorem flds_wrs23 {c0 c1 c2 c3 c4 c5 c6:Int}(h:Flds [c0,c1,c2,c3,c4,c5,c6])(hc:cent c1=c0):fldsOf 23 (wrs 23 [c0,c1,c2,c3,c4,c5,c6])=[c0,c1,c2,c3,c4,c5,c6]:=by
 have k1:=h c1 (by simp);have k2:=h c2 (by simp);have k3:=h c3 (by simp);have k4:=h c4 (by simp);have k5:=h c5 (by simp);have k6:=h c6 (by simp)
 have e1:=pr_wr k1.1 k1.2;have e2:=pr_wr k2.1 k2.2;have e3:=pr_wr k3.1 k3.2;have e4:=pr_wr k4.1 k4.2;have e5:=pr_wr k5.1 k5.2;have e6:=pr_wr k6.1 k6.2
 have p0:pr (wrs 23 [c0,c1,c2,c3,c4,c5,c6]) 0=c1:=by simpa[pr,wrs,wr2] using e1
 have p1:pr (wrs 23 [c0,c1,c2,c3,c4,c5,c6]) 1=c2:=by simpa[pr,wrs,wr2] using e2
 have p2:pr (wrs 23 [c0,c1,c2,c3,c4,c5,c6]) 2=c3:=by simpa[pr,wrs,wr2] using e3
 have p3:pr (wrs 23 [c0,c1,c2,c3,c4,c5,c6]) 3=c4:=by simpa[pr,wrs,wr2] using e4
 have p4:pr (wrs 23 [c0,c1,c2,c3,c4,c5,c6]) 4=c5:=by simpa[pr,wrs,wr2] using e5
 have p5:pr (wrs 23 [c0,c1,c2,c3,c4,c5,c6]) 5=c6:=by simpa[pr,wrs,wr2] using e6
 unfold fldsOf
 rw[if_pos rfl,p0,p1,p2,p3,p4,p5,hc]
theorem flds_wrs24 {c0 c1 c2 c3 c4 c5 c6:Int}(h:Flds [c0,c1,c2,c3,c4,c5,c6]):fldsOf 24 (wrs 24 [c0,c1,c2,c3,c4,c5,c6])=[c0,c1,c2,c3,c4,c5,c6]:=by
 have k0:=h c0 (by simp)
 have k1:=h c1 (by simp);have k2:=h c2 (by simp);have k3:=h c3 (by simp);have k4:=h c4 (by simp);have k5:=h c5 (by simp);have k6:=h c6 (by simp)
 have e0:=pr_wr k0.1 k0.2
 have e1:=pr_wr k1.1 k1.2;have e2:=pr_wr k2.1 k2.2;have e3:=pr_wr k3.1 k3.2;have e4:=pr_wr k4.1 k4.2;have e5:=pr_wr k5.1 k5.2;have e6:=pr_wr k6.1 k6.2
 have p0:pr (wrs 24 [c0,c1,c2,c3,c4,c5,c6]) 0=c0:=by simpa[pr,wrs,wr2] using e0
 have p1:pr (wrs 24 [c0,c1,c2,c3,c4,c5,c6]) 1=c1:=by simpa[pr,wrs,wr2] using e1
 have p2:pr (wrs 24 [c0,c1,c2,c3,c4,c5,c6]) 2=c2:=by simpa[pr,wrs,wr2] using e2
 have p3:pr (wrs 24 [c0,c1,c2,c3,c4,c5,c6]) 3=c3:=by simpa[pr,wrs,wr2] using e3
 have p4:pr (wrs 24 [c0,c1,c2,c3,c4,c5,c6]) 4=c4:=by simpa[pr,wrs,wr2] using e4
 have p5:pr (wrs 24 [c0,c1,c2,c3,c4,c5,c6]) 5=c5:=by simpa[pr,wrs,wr2] using e5
 have p6:pr (wrs 24 [c0,c1,c2,c3,c4,c5,c6]) 6=c6:=by simpa[pr,wrs,wr2] using e6
 unfold fldsOf
 rw[if_neg (by decide),p0,p1,p2,p3,p4,p5,p6]
theorem flds_back {s:Int}(h:InR s):fldsOf (tagOf s) (bodyOf s)=clk s:=by
 have hf:=clk_flds h
 have hy:=y_spec h
 have ht:=tag_year h
 unfold bodyOf tagOf
 by_cases hs:2524608000≤s
 ·rw[if_pos hs];exact flds_wrs24 hf
 ·rw[if_neg hs]
  refine flds_wrs23 hf ?_
  have: ¬2050≤yOf s:=fun h=>hs (ht.2 h)
  unfold cent
  split<;>omega
theorem secAt_clk {s:Int}(h:InR s):secAt (yOf s) ((mOf s:Int)+1) (rOf s - cum (lp (yOf s)) (mOf s)+1) ((s+631152000) / 60/ 60%24) ((s+631152000) / 60%60) ((s+631152000)%60)=s:=by
 have hm:=(m_spec h).2.2
 have e:mIx ((mOf s:Int)+1)=mOf s:=by unfold mIx;omega
 unfold secAt daysAt
 rw[e]
 unfold rOf
 have:dto (yOf s)+ (dayOf s - dto (yOf s) - cum (lp (yOf s)) (mOf s)+1) - 1+cum (lp (yOf s)) (mOf s)=dayOf s:=by omega
 rw[this]
 unfold dayOf;omega
theorem secOf_clk {s:Int}(h:InR s):secOf (clk s)=s:=by
 have e:100* (yOf s/ 100)+yOf s%100=yOf s:=by omega
 have:=secAt_clk h
 simpa[secOf,clk,e] using this
theorem sec_back {s:Int}(h:InR s):secOf (fldsOf (tagOf s) (bodyOf s))=s:=by rw[flds_back h,secOf_clk h]
def timeS (tag:Int)(xs:List Int):Int:=secOf (fldsOf tag xs)
def OkT (tag:Int)(xs:List Int):Prop:=InR (timeS tag xs)∧tagOf (timeS tag xs)=tag∧bodyOf (timeS tag xs)=xs
theorem okT_back {s:Int}(h:InR s):OkT (tagOf s) (bodyOf s)∧timeS (tagOf s) (bodyOf s)=s:=by
 have:=sec_back h
 unfold OkT timeS
 rw[this]
 exact⟨⟨h,rfl,rfl⟩,rfl⟩
theorem bodyOf_len {s:Int}:(bodyOf s).length=if 2524608000≤s then 15 else 13:=by
 unfold bodyOf tagOf
 split<;>simp[wrs,clk,wr2]
theorem wr2_bd {n:Int}(h:0≤n)(h2:n≤99): ∀x∈wr2 n,48≤x∧x≤57:=by
 intro x hx
 simp only[wr2,List.mem_cons,List.not_mem_nil,or_false] at hx
 rcases hx with rfl |rfl<;>omega
theorem wrs_fit {tag:Int}{c:List Int}(h:Flds c): ∀x∈wrs tag c,48≤x∧x≤90:=by
 intro x hx
 simp only[wrs,List.mem_append,List.mem_flatMap,List.mem_singleton] at hx
 rcases hx with ⟨n,hn,hx⟩ |rfl
 ·have hn':n∈c:=by
   split at hn
   ·exact List.mem_of_mem_drop hn
   ·exact hn
  have:=wr2_bd (h n hn').1 (h n hn').2 x hx
  omega
 ·omega
end Go.Proofs.YtkjkhoglkpepiaaGreatDoor.txm
namespace Go.Proofs.YtkjkhoglkpepiaaGreatDoor.txc
open Go.RowKit txm tlvc
theorem leap_any (y:Int)(w:World)(h:0≤y)(h2:y≤1000000):
 Calls Tryz.prog 203 #[.int .i64 y] w fun e w'=>e=.returned (.int .i64 (lpG y))∧w=w':=by
 by_cases h0:y=0
 ·subst h0
  go_enter Tryz.func203,Tryz.ntmps203
  go_wp2
  go_ret
  exact⟨rfl,rfl⟩
 ·have h1:1≤y:=by omega
  rw[lpG_pos h1]
  go_enter Tryz.func203,Tryz.ntmps203
  go_wp2
  go_ret
  exact⟨ret_i64 rfl,rfl⟩
theorem daysTo_any (y:Int)(w:World)(h:0≤y)(h2:y≤1000000):
 Calls Tryz.prog 167 #[.int .i64 y] w fun e w'=>e=.returned (.int .i64 (dto y))∧w=w':=by
 obtain⟨L,hL⟩:=nm_ (lpG y)
 have hb:=lpG_bd h h2
 rw[hL] at hb
 have hd:dto y=365* (y - 1950)+L - 472:=by unfold dto;rw[hL]
 rw[hd]
 have hL':=hd_ hL
 have e50:lpG 1950=472:=by decide
 have H50:=hd_ e50
 clear hL hd e50
 obtain⟨hb1,hb2⟩:=hb
 go_enter Tryz.func167,Tryz.ntmps167
 go_wp2_with fail
 refine(leap_any _ _ h h2).mono ?_
 rw[hL'.out]
 rintro e w' ⟨rfl,rfl⟩
 go_wp2_with fail
 refine(leap_any _ _ (by omega) (by omega)).mono ?_
 rw[H50.out]
 rintro e w' ⟨rfl,rfl⟩
 go_wp2
 go_ret
 exact⟨ret_i64 rfl,rfl⟩
theorem leap_still (y L:Int)(w:World)(h:0≤y)(h2:y≤1000000)(hL:Hid (lpG y=L)):
 Calls Tryz.prog 203 #[.int .i64 y] w fun e w'=>e=.returned (.int .i64 L)∧w'=w:=
 (leap_any y w h h2).mono fun e w' ⟨h1,h2⟩=>⟨by rw[←hL.out];exact h1,h2.symm⟩
end Go.Proofs.YtkjkhoglkpepiaaGreatDoor.txc
namespace Go.Proofs.YtkjkhoglkpepiaaGreatDoor.txc
open Go.RowKit txm tlvc
theorem heap_at (w:World)(o:Obj)(k:Nat)(h:k=w.heap.size):(w.alloc o).heap[k]? =some o:=by subst h;exact heap_new w o
def monsV (l:Int):Value:=.agg #[.int .i64 31,.int .i64 (28+l),.int .i64 31,.int .i64 30,.int .i64 31,.int .i64 30,.int .i64 31,.int .i64 31,.int .i64 30,.int .i64 31,.int .i64 30,.int .i64 31]
theorem monthsOf_any (y:Int)(w:World)(h:0≤y)(h2:y≤900000):
 Calls Tryz.prog 168 #[.int .i64 y] w fun e w'=>e=.returned (monsV (lp y))∧Below w.heap.size w w':=by
 obtain⟨L0,hL0⟩:=nm_ (lpG y)
 obtain⟨L1,hL1⟩:=nm_ (lpG (y+1))
 have hb0:=lpG_bd h (by omega)
 have hb1:=lpG_bd (y:=y+1) (by omega) (by omega)
 have hl:=lp_01 h
 have hlp:lp y=L1 - L0:=by unfold lp;rw[hL0,hL1]
 rw[hlp] at hl⊢
 rw[hL0] at hb0
 rw[hL1] at hb1
 have H0:=hd_ hL0
 have H1:=hd_ hL1
 clear hL0 hL1 hlp
 obtain⟨hb0,hb0'⟩:=hb0
 obtain⟨hb1,hb1'⟩:=hb1
 obtain⟨hl,hl'⟩:=hl
 go_enter Tryz.func168,Tryz.ntmps168
 go_wp2_with fail
 obtain⟨W1,hW1⟩:=nm_ ((w.alloc (.cells #[.int .i64 0,.int .i64 0,.int .i64 0,.int .i64 0,.int .i64 0,.int .i64 0,.int .i64 0,.int .i64 0,.int .i64 0,.int .i64 0,.int .i64 0,.int .i64 0] 205)).alloc (.cells #[.int .i64 31,.int .i64 28,.int .i64 31,.int .i64 30,.int .i64 31,.int .i64 30,.int .i64 31,.int .i64 31,.int .i64 30,.int .i64 31,.int .i64 30,.int .i64 31] 205))
 have k1:W1.heap[w.heap.size+1]? =some (.cells #[.int .i64 31,.int .i64 28,.int .i64 31,.int .i64 30,.int .i64 31,.int .i64 30,.int .i64 31,.int .i64 31,.int .i64 30,.int .i64 31,.int .i64 30,.int .i64 31] 205):=by rw[←hW1];exact heap_at _ _ _ (by simp)
 have k0:W1.heap[w.heap.size]? =some (.cells #[.int .i64 0,.int .i64 0,.int .i64 0,.int .i64 0,.int .i64 0,.int .i64 0,.int .i64 0,.int .i64 0,.int .i64 0,.int .i64 0,.int .i64 0,.int .i64 0] 205):=by rw[←hW1,heap_old _ _ (by simp)];exact heap_new _ _
 have hz:W1.heap.size=w.heap.size+2:=by rw[←hW1];simp
 have hb:Below w.heap.size w W1:=by rw[←hW1];exact((br_ _ _).alloc (lr_ _) _).alloc (by simp) _
 rw[hW1]
 have hcl:W1.cell? ⟨w.heap.size+1,1,none⟩=some (.int .i64 28):=by rw[ch_ k1];rfl
 have hw0:IntKind.i64.wrap (y+1)=y+1:=IntWalk.i64_in _ (by omega)
 have hw1:IntKind.i64.wrap (L1 - L0)=L1 - L0:=IntWalk.i64_in _ (by omega)
 have hw2:IntKind.i64.wrap (28+ (L1 - L0))=28+ (L1 - L0):=IntWalk.i64_in _ (by omega)
 refine wp_region_still_tail 10 (by kernel_rfl) (by kernel_rfl) ?_
 simp only[List.take_succ_cons,List.take_zero,List.drop_succ_cons,List.drop_zero]
 repeat still_step
 still_call (leap_still _ _ _ (by omega) (by omega) H1)
 repeat still_step
 still_call (leap_still _ _ _ (by omega) (by omega) H0)
 repeat still_step
 refine wpStill_nil ?_
 change wpList _ _ _ _ _ W1.drew
 clear hcl k1 k0 hz hb
 subst hW1
 go_wp2
 exact bodyPost_ret (v:=monsV (L1 - L0)) (by simp[results,Tryz.results168,go_sem,monsV]) rfl ⟨rfl,(((br_ _ _).alloc (lr_ _) _).alloc (by simp) _).drew⟩
end Go.Proofs.YtkjkhoglkpepiaaGreatDoor.txc
namespace Go.Proofs.YtkjkhoglkpepiaaGreatDoor.txc
open Go.RowKit txm tlvc
def ints (c:List Int):Array Value:=(c.map (Value.int .i64)).toArray
def clkV (sec:Int):Value:=.agg (ints (clk sec))
theorem mons_at (l:Int){k:Nat}(h:k<12)(w:World):(Instr.index 205 (monsV l) (.int .i64 k)).run Tryz.prog w=.ok (.int .i64 (mon l k)) w:=by
 rcases twelve h with rfl |rfl |rfl |rfl |rfl |rfl |rfl |rfl |rfl |rfl |rfl |rfl<;>kernel_rfl
theorem clockAt_any (sec:Int)(w:World)(h:InR sec):
 Calls Tryz.prog 103 #[.int .i64 sec] w fun e w'=>e=.returned (clkV sec)∧Below w.heap.size w w':=by
 obtain⟨S,hS⟩:=nm_ (sec+631152000)
 have hb:=dayOf_bd h
 have hday:dayOf sec=S/ 86400:=by unfold dayOf;rw[hS]
 rw[hday] at hb
 obtain⟨hb0,hb1⟩:=hb
 have hS0:0≤S:=by unfold InR at h;omega
 have hS1:S≤254033452799:=by unfold InR at h;omega
 have hg:=dto_guess hb0
 have hgb:=guess_bd hb0 hb1
 obtain⟨hgb0,hgb1⟩:=hgb
 obtain⟨Y,hY⟩:=nm_ (yOf sec)
 obtain⟨R,hR⟩:=nm_ (rOf sec)
 obtain⟨M,hM⟩:=nm_ (mOf sec)
 have hl:=lp_y h
 have hr:=r_bd h
 have huniq: ∀y,1≤y→dto y≤S/ 86400→S/ 86400<dto (y+1)→y=Y:=fun y h1 h2 h3=>by rw[←hY];unfold yOf;rw[hday];exact yearOf_uniq hb0 hb1 h1 h2 h3
 have hRd:R=S/ 86400 - dto Y:=by rw[←hR,←hY];unfold rOf;rw[hday]
 rw[hY] at hl hr
 rw[hR] at hr
 have hmu: ∀i:Nat,i<12→cum (lp Y) i≤R→R<cum (lp Y) (i+1)→i=M:=fun i h1 h2 h3=>by
  rw[←hM];unfold mOf;rw[hY,hR];exact monOf_uniq hl.1 hl.2 hr.1 hr.2 h1 h2 h3
 have hyb:=y_spec h
 rw[hY] at hyb
 obtain⟨_,_,hy0,hy1⟩:=hyb
 have hclk:clkV sec=.agg #[.int .i64 (Y/ 100),.int .i64 (Y%100),.int .i64 ((M:Int)+1),.int .i64 (R - cum (lp Y) M+1),.int .i64 (S/ 60/ 60%24),.int .i64 (S/ 60%60),.int .i64 (S%60)]:=by
  simp only[clkV,clk,ints,hY,hR,hM,hS,List.map_cons,List.map_nil]
 rw[hclk]
 have HU:=hd_ huniq
 have HM:=hd_ hmu
 have HR:=hd_ hRd
 clear huniq hmu hRd hclk hY hR hM hday
 obtain⟨hl0,hl1⟩:=hl
 obtain⟨hr0,hr1⟩:=hr
 have hdy:=dto_bd (y:=Y) (by omega) (by omega)
 obtain⟨hdy0,hdy1⟩:=hdy
 obtain⟨L,hL⟩:=nm_ (lp Y)
 rw[hL] at HM hl0 hl1 hr1
 have HL:=hd_ hL
 rw[hL]
 clear hL
 go_enter Tryz.func103,Tryz.ntmps103
 go_wp2_with fail
 go_loop [6] (fun t=>∃y:Int,1950≤y∧y≤9999∧dto y≤S/ 86400∧t=.int .i64 y) (fun t=>(9999 - intOf t).toNat)
 case atStart=>exact⟨_,hgb0,hgb1,hg,rfl⟩
 case round=>
  obtain⟨y,hy1,hy2,hy3,rfl⟩:=hrel
  clear hg hgb0 hgb1
  by_cases hc:dto (y+1)≤S/ 86400
  ·have hlt:y<9999:=by
    rcases Int.lt_or_le y 9999 with h |h
    ·exact h
    ·have:y=9999:=by omega
     subst this
     have:=dto_10000
     have e:(9999:Int)+1=10000:=by decide
     rw[e] at hc
     omega
   go_wp2_with fail
   refine(daysTo_any _ _ (by omega) (by omega)).mono ?_
   rintro e w' ⟨rfl,rfl⟩
   go_wp2_with fail
   go_round
   case rel=>exact⟨y+1,by omega,by omega,hc,rfl⟩
   case measure=>simp[intOf];omega
  ·obtain rfl:Y=y:=(HU.out y (by omega) hy3 (by omega)).symm
   go_wp2_with fail
   refine(daysTo_any _ _ (by omega) (by omega)).mono ?_
   rintro e w' ⟨rfl,rfl⟩
   go_wp2_with fail
   refine(daysTo_any _ _ (by omega) (by omega)).mono ?_
   rintro e w' ⟨rfl,rfl⟩
   have hR':=HR.out.symm
   go_wp2_with fail
   clear hR'
   refine(monthsOf_any _ _ (by omega) (by omega)).mono ?_
   rw[HL.out]
   rintro e w1 ⟨rfl,hbw⟩
   have hB:Below w.heap.size w w1:=((br_ _ _).alloc (lr_ _) _).trans (hbw.mono (by simp))
   obtain⟨hc1,hf1⟩:=bcell hbw
   have hz:w.heap.size+1≤w1.heap.size:=by have:=hbw.size;simp at this;omega
   have k0:w1.heap[w.heap.size]? =some (.cells #[.int .i64 0,.int .i64 0,.int .i64 0,.int .i64 0,.int .i64 0,.int .i64 0,.int .i64 0] 145):=by
    rw[hbw.block _ (by simp)];exact heap_new _ _
   clear hbw
   go_wp2_with fail
   go_loop [5,7,9,32] (fun t5 t7 t9 t32=>∃k:Nat,k<12∧0≤R - cum L k∧t5=.int .i64 (R - cum L k)∧t7=.int .i64 (k+1)∧t32=.int .i64 k) (fun _ _ _ t32=>12 - (intOf t32).toNat)
   case atStart=>exact⟨0,by omega,by simp[cum];omega,by simp[cum],rfl,rfl⟩
   case round=>
    obtain⟨k,hk,hk0,rfl,rfl,rfl⟩:=hrel
    have hix:=mons_at L hk
    have hcs:=cum_step L hk
    have hcb:=cum_bd hl0 hl1 k
    have hmb:=mon_bd hl0 hl1 k
    obtain⟨hcb0,hcb1⟩:=hcb
    obtain⟨hmb0,hmb1⟩:=hmb
    by_cases hm:R - cum L k<mon L k
    ·obtain rfl:k=M:=HM.out k hk (by omega) (by omega)
     clear hcs
     go_wp2
     have hk7:=heap_set7 k0 (.int .i64 (Y/ 100)) (.int .i64 (Y%100)) (.int .i64 ((k:Int)+1)) (.int .i64 (R - cum L k+1)) (.int .i64 (S/ 60/ 60%24)) (.int .i64 (S/ 60%60)) (.int .i64 (S%60))
     refine bodyPost_ret (v:=.agg #[.int .i64 (Y/ 100),.int .i64 (Y%100),.int .i64 ((k:Int)+1),.int .i64 (R - cum L k+1),.int .i64 (S/ 60/ 60%24),.int .i64 (S/ 60%60),.int .i64 (S%60)]) ?_ rfl ⟨rfl,below_set7 hB (lr_ _) _ _ _ _ _ _ _⟩
     generalize ((((((w1.setCell ⟨w.heap.size,0,none⟩ (.int .i64 (Y/ 100))).setCell ⟨w.heap.size,1,none⟩ (.int .i64 (Y%100))).setCell ⟨w.heap.size,2,none⟩ (.int .i64 ((k:Int)+1))).setCell ⟨w.heap.size,3,none⟩ (.int .i64 (R - cum L k+1))).setCell ⟨w.heap.size,4,none⟩ (.int .i64 (S/ 60/ 60%24))).setCell ⟨w.heap.size,5,none⟩ (.int .i64 (S/ 60%60))).setCell ⟨w.heap.size,6,none⟩ (.int .i64 (S%60))=w9 at hk7⊢
     have hce: ∀j,w9.cell? ⟨w.heap.size,j,none⟩=_:=fun j=>ch_ hk7 j
     simp[results,Tryz.results103,go_sem,hce]
    ·have hk2:k+1<12:=by
      rcases Nat.lt_or_ge (k+1) 12 with h |h
      ·exact h
      ·have e:k=11:=by omega
       subst e
       have:cum L (11+1)=365+L:=rfl
       omega
     have hcs':R - cum L k - mon L k=R - cum L (k+1):=by omega
     have hp:0≤R - cum L (k+1):=by omega
     have HC:=hd_ hcs'
     clear hcs hcs'
     go_wp2
     go_round
     case rel=>exact⟨k+1,hk2,hp,by rw[HC.out],by go_num,by go_num⟩
     case measure=>simp[intOf];omega
end Go.Proofs.YtkjkhoglkpepiaaGreatDoor.txc
namespace Go.Proofs.YtkjkhoglkpepiaaGreatDoor.txc
open Go.RowKit txm tlvc
theorem seven {k:Nat}(h:k<7):k=0∨k=1∨k=2∨k=3∨k=4∨k=5∨k=6:=by omega
theorem ints7_at (c0 c1 c2 c3 c4 c5 c6:Int){k:Nat}(h:k<7)(w:World):(Instr.index 145 (.agg #[.int .i64 c0,.int .i64 c1,.int .i64 c2,.int .i64 c3,.int .i64 c4,.int .i64 c5,.int .i64 c6]) (.int .i64 k)).run Tryz.prog w=.ok (.int .i64 ([c0,c1,c2,c3,c4,c5,c6].getD k 0)) w:=by
 rcases seven h with rfl |rfl |rfl |rfl |rfl |rfl |rfl<;>kernel_rfl
def pre (tag:Int)(c:List Int)(k:Nat):List Int:=((c.take k).drop (if tag=23 then 1 else 0)).flatMap wr2
theorem pre_zero (tag:Int)(c:List Int):pre tag c 0=[]:=by simp[pre]
theorem pre_skip {c:List Int}:pre 23 c 1=[]:=by cases c<;>simp[pre]
theorem pre_step {tag:Int}{c:List Int}{k:Nat}(h:k<c.length)(hk:tag=23→1≤k):pre tag c (k+1)=pre tag c k++wr2 (c.getD k 0):=by
 unfold pre
 rw[List.take_succ_eq_append_getElem h,List.drop_append,List.flatMap_append]
 have e:(if tag=23 then 1 else 0) - (c.take k).length=0:=by rw[List.length_take];split<;>rename_i ht<;>first | (have:=hk ht;omega) |omega
 rw[e,List.drop_zero]
 simp[List.getD_eq_getElem?_getD,List.getElem?_eq_getElem h]
theorem pre_all {tag:Int}{c:List Int}(h:c.length=7):pre tag c 7++[90]=wrs tag c:=by
 unfold pre wrs
 rw[List.take_of_length_le (by omega)]
 split<;>simp
theorem pre_len (tag:Int)(c:List Int)(k:Nat)(h:k≤7):(pre tag c k).length≤14:=by
 unfold pre
 have e: ∀l:List Int,(l.flatMap wr2).length=2*l.length:=fun l=>by
  induction l with
  |nil=>rfl
  |cons a l ih=>rw[List.flatMap_cons,List.length_append,ih];simp[wr2];omega
 rw[e,List.length_drop,List.length_take]
 omega
theorem wrs_fit' {tag:Int}{c:List Int}(h:Flds c):Fit (wrs tag c):=fun x hx=>by have:=wrs_fit h x hx;omega
theorem flds_at {c:List Int}(h:Flds c)(k:Nat):0≤c.getD k 0∧c.getD k 0≤99:=by
 rcases Nat.lt_or_ge k c.length with hk |hk
 ·rw[List.getD_eq_getElem?_getD,List.getElem?_eq_getElem hk];exact h _ (List.getElem_mem hk)
 ·rw[List.getD_eq_getElem?_getD,List.getElem?_eq_none hk];exact⟨Int.le_refl _,by decide⟩
theorem written_any (tag c0 c1 c2 c3 c4 c5 c6:Int)(w:World)(ht:tag=23∨tag=24)(h:Flds [c0,c1,c2,c3,c4,c5,c6]):
 Calls Tryz.prog 102 #[.int .u8 tag,.agg #[.int .i64 c0,.int .i64 c1,.int .i64 c2,.int .i64 c3,.int .i64 c4,.int .i64 c5,.int .i64 c6]] w (Made w (wrs tag [c0,c1,c2,c3,c4,c5,c6])):=by
 obtain⟨i0,hi,hz0,hz1,hz2⟩:=info_parts Tryz.info5
 obtain⟨c,hc⟩:=nm_ ([c0,c1,c2,c3,c4,c5,c6])
 have hcl:c.length=7:=by rw[←hc];rfl
 have hix: ∀k:Nat,k<7→∀w,_:=fun k hk=>ints7_at c0 c1 c2 c3 c4 c5 c6 hk
 rw[hc] at hix h⊢
 have HI:=hd_ hix
 have HC:=hd_ hcl
 clear hix hc hcl
 go_enter Tryz.func102,Tryz.ntmps102
 go_wp2_with fail
 go_loopw [5,6,7,9] (fun v _ _ t9 wr=>∃k:Nat,k≤7∧t9=.int .i64 k∧wr.ownsRow w.heap.size 5 1 v (pre tag c k).length (vals (pre tag c k))∧Below w.heap.size w wr) (fun _ _ _ t9 _=>8 - (intOf t9).toNat)
 case atStart=>
  refine⟨0,by omega,rfl,?_,(br_ _ _).alloc (lr_ _) _⟩
  rw[pre_zero];exact⟨rfl,.inl ⟨rfl,rfl⟩⟩
 case round=>
  obtain⟨k,hk,rfl,hown,hbw⟩:=hrel
  have hbs:=hbw.size
  by_cases hlt:k<7
  ·have hx:=HI.out k hlt
   have hf:=flds_at h k
   have hps:=pre_step (tag:=tag) (c:=c) (k:=k) (by rw[HC.out];exact hlt)
   have hpl:=pre_len tag c k (by omega)
   obtain⟨X,hX⟩:=nm_ (c.getD k 0)
   rw[hX] at hx hf hps
   clear hX
   have HP:=hd_ hps
   clear hps
   by_cases hz:k=0
   ·have hb0:((k:Int)==0)=true:=by simp[hz]
    have HZ:=hd_ hz
    clear hz
    rcases ht with rfl |rfl
    ·have hw:wr.ownsRow w.heap.size 5 1 u5 (pre 23 c (k+1)).length (vals (pre 23 c (k+1))):=by rw[HZ.out] at hown⊢;rw[pre_skip];rw[pre_zero] at hown;exact hown
     clear hown
     go_wp2
     go_roundw
     case rel=>exact⟨k+1,by omega,by go_num,hw,hbw⟩
     case measure=>simp[intOf];omega
    ·have hbn:Bys (wr.alloc (.cells #[.int .u8 (48+X/ 10),.int .u8 (48+X%10)] 5)) (some ⟨wr.heap.size,0,none⟩) 2 [48+X/ 10,48+X%10]:=bys_new2 wr _ (by omega) (by omega)
     go_wp2_with (at_builtin;refine wpl_app rfl (.tmp 19) (.tmp 28) 34 rfl w.heap.size 5 i0 (.int .u8 0) Tryz.underlying34 hi hz0 hz1 hz2 rfl u5 (pre 24 c k).length (vals (pre 24 c k)) rfl (hown.alloc _) (some ⟨wr.heap.size,0,none⟩) 2 2 [48+X/ 10,48+X%10] rfl hbn (by omega) (by simp;omega) ?_;intro v' w2 ho2 hg2)
     have hnx:=own_next hbw hown (HP.out (fun h=>absurd h (by decide))) rfl ho2 hg2
     have HN:=hd_ hnx
     clear hnx ho2 hg2 hown hbn
     go_wp2
     go_roundw
     case rel=>exact⟨k+1,by omega,by go_num,HN.out.1,HN.out.2⟩
     case measure=>simp[intOf];omega
   ·have hb0:((k:Int)==0)=false:=by simp[hz]
    have hbn:Bys (wr.alloc (.cells #[.int .u8 (48+X/ 10),.int .u8 (48+X%10)] 5)) (some ⟨wr.heap.size,0,none⟩) 2 [48+X/ 10,48+X%10]:=bys_new2 wr _ (by omega) (by omega)
    go_wp2_with (at_builtin;refine wpl_app rfl (.tmp 19) (.tmp 28) 34 rfl w.heap.size 5 i0 (.int .u8 0) Tryz.underlying34 hi hz0 hz1 hz2 rfl u5 (pre tag c k).length (vals (pre tag c k)) rfl (hown.alloc _) (some ⟨wr.heap.size,0,none⟩) 2 2 [48+X/ 10,48+X%10] rfl hbn (by omega) (by simp;omega) ?_;intro v' w2 ho2 hg2)
    have hnx:=own_next hbw hown (HP.out (by omega)) rfl ho2 hg2
    have HN:=hd_ hnx
    clear hnx ho2 hg2 hown hbn
    go_wp2
    go_roundw
    case rel=>exact⟨k+1,by omega,by go_num,HN.out.1,HN.out.2⟩
    case measure=>simp[intOf];omega
  ·have hk7:k=7:=by omega
   have hpl:=pre_len tag c k hk
   have HK:=hd_ hk7
   clear hk7
   go_wp2_with (at_builtin;refine wpl_app rfl (.tmp 31) (.tmp 32) 34 rfl w.heap.size 5 i0 (.int .u8 0) Tryz.underlying34 hi hz0 hz1 hz2 rfl u5 (pre tag c k).length (vals (pre tag c k)) rfl (hown.alloc _) (some ⟨wr.heap.size,0,none⟩) 1 1 [90] rfl (bys_new1 wr _ (by omega)) (by omega) (by simp;omega) ?_;intro v' w2 ho2 hg2)
   have hnx:=own_next hbw hown (HK.out▸(pre_all HC.out).symm) rfl ho2 hg2
   have hfin:Made w (wrs tag c) (.returned v') w2:=made_own hnx.1 (wrs_fit' h) hnx.2
   clear hnx ho2 hg2 hown
   go_wp2
   go_ret
   exact hfin
end Go.Proofs.YtkjkhoglkpepiaaGreatDoor.txc
namespace Go.Proofs.YtkjkhoglkpepiaaGreatDoor.txc
open Go.RowKit txm tlvc
def Put (w:World)(t:Int)(ys:List Int)(er:Int)(e:Ending)(w':World):Prop:=
 ∃A c,e=.returned (.tuple #[.int .u8 t,.slice A ys.length c,.int .i64 er])∧Here w.heap.size A c ys w'∧Below w.heap.size w w'
theorem body_fit {s:Int}(h:InR s):Fit (bodyOf s):=wrs_fit' (clk_flds h)
theorem putTime_in (sec:Int)(w:World)(h:InR sec):
 Calls Tryz.prog 52 #[.int .i64 sec] w (Put w (tagOf sec) (bodyOf sec) 0):=by
 have hr: -631152000≤sec∧sec≤253402300799:=h
 obtain⟨hr0,hr1⟩:=hr
 have hf:=clk_flds h
 obtain⟨c0,c1,c2,c3,c4,c5,c6,hc⟩: ∃c0 c1 c2 c3 c4 c5 c6,clk sec=[c0,c1,c2,c3,c4,c5,c6]:=⟨_,_,_,_,_,_,_,rfl⟩
 have hv:clkV sec=.agg #[.int .i64 c0,.int .i64 c1,.int .i64 c2,.int .i64 c3,.int .i64 c4,.int .i64 c5,.int .i64 c6]:=by unfold clkV ints;rw[hc];rfl
 unfold bodyOf
 rw[hc] at hf⊢
 have HV:=hd_ hv
 clear hv hc
 have tail: ∀t,t=23∨t=24→∀(wx:World),Below w.heap.size w wx→Calls Tryz.prog 102 #[.int .u8 t,.agg #[.int .i64 c0,.int .i64 c1,.int .i64 c2,.int .i64 c3,.int .i64 c4,.int .i64 c5,.int .i64 c6]] wx
  fun e w'=>∃A c,e=.returned (.slice A (wrs t [c0,c1,c2,c3,c4,c5,c6]).length c)∧Here w.heap.size A c (wrs t [c0,c1,c2,c3,c4,c5,c6]) w'∧Below w.heap.size w w':=fun t ht wx hb=>
  (written_any t c0 c1 c2 c3 c4 c5 c6 wx ht hf).mono fun e w' ⟨A,c,h1,h2,h3⟩=>⟨A,c,h1,⟨h2.1,h2.2.1,h2.2.2.1,fun b off e=>⟨Nat.le_trans hb.size (h2.2.2.2 b off e).1,(h2.2.2.2 b off e).2⟩⟩,hb.trans (h3.mono hb.size)⟩
 by_cases hs:2524608000≤sec
 ·rw[show tagOf sec=24 from if_pos hs]
  have ht:=tail 24 (.inr rfl)
  clear tail
  go_enter Tryz.func52,Tryz.ntmps52
  go_wp2_with fail
  refine(clockAt_any _ _ h).mono ?_
  rw[HV.out]
  rintro e w1 ⟨rfl,hb1⟩
  go_wp2_with fail
  refine(ht _ hb1).mono ?_
  rintro e w2 ⟨A,c,rfl,hh,hb2⟩
  go_wp2
  go_ret3
  exact⟨_,_,rfl,hh,hb2⟩
 ·rw[show tagOf sec=23 from if_neg hs]
  have ht:=tail 23 (.inl rfl)
  clear tail
  go_enter Tryz.func52,Tryz.ntmps52
  go_wp2_with fail
  refine(clockAt_any _ _ h).mono ?_
  rw[HV.out]
  rintro e w1 ⟨rfl,hb1⟩
  go_wp2_with fail
  refine(ht _ hb1).mono ?_
  rintro e w2 ⟨A,c,rfl,hh,hb2⟩
  go_wp2
  go_ret3
  exact⟨_,_,rfl,hh,hb2⟩
theorem putTime_out (sec:Int)(w:World)(h:sec< -631152000∨253402300799<sec):
 Calls Tryz.prog 52 #[.int .i64 sec] w (Put w 0 [] 32):=by
 have fin:Put w 0 [] 32 (.returned (.tuple #[.int .u8 0,.slice none 0 0,.int .i64 32])) w:=⟨none,0,rfl,⟨Bys.nil_ _ _,lr_ _,Nat.zero_le _,fun _ _ h=>by cases h⟩,br_ _ _⟩
 rcases h with h |h
 ·go_enter Tryz.func52,Tryz.ntmps52
  go_wp2
  go_ret3
  exact fin
 ·have h': ¬sec< -631152000:=by omega
  go_enter Tryz.func52,Tryz.ntmps52
  go_wp2
  go_ret3
  exact fin
instance (s:Int):Decidable (InR s):=by unfold InR;infer_instance
def putT (s:Int):Int:=if InR s then tagOf s else 0
def putB (s:Int):List Int:=if InR s then bodyOf s else []
def putE (s:Int):Int:=if InR s then 0 else 32
theorem out_of {s:Int}(h: ¬InR s):s< -631152000∨253402300799<s:=by unfold InR at h;omega
end Go.Proofs.YtkjkhoglkpepiaaGreatDoor.txc
namespace Go.Proofs.YtkjkhoglkpepiaaGreatDoor.txm
end Go.Proofs.YtkjkhoglkpepiaaGreatDoor.txm
namespace Go.Proofs.YtkjkhoglkpepiaaGreatDoor.txm
def fldAt (tag:Int)(xs:List Int)(j:Nat):Int:=if tag=23 then (if j=0 then 0 else pr xs (j - 1)) else pr xs j
def fldK (tag:Int)(xs:List Int)(k:Nat):List Int:=(List.range 7).map fun j=>if j<k then fldAt tag xs j else 0
def gone (tag:Int)(n k:Nat):Nat:=min (if tag=23 then k - 1 else k) (n/ 2)
theorem fldK_len (tag:Int)(xs:List Int)(k:Nat):(fldK tag xs k).length=7:=by simp[fldK]
theorem fldK_set (tag:Int)(xs:List Int){k:Nat}(h:k<7){v:Int}(hv:v=fldAt tag xs k):(fldK tag xs k).set k v=fldK tag xs (k+1):=by
 subst hv
 apply List.ext_getElem?
 intro j
 rw[List.getElem?_set,fldK_len]
 by_cases hj:j<7
 ·by_cases e:k=j
  ·subst e;simp[fldK,h]
  ·rw[if_neg e]
   simp only[fldK,List.getElem?_map,List.getElem?_range hj,Option.map_some]
   have:(j<k+1)=(j<k):=propext ⟨fun h=>by omega,fun h=>by omega⟩
   simp only[this]
 ·have e:k≠j:=by omega
  rw[if_neg e,List.getElem?_eq_none (by rw[fldK_len];omega),List.getElem?_eq_none (by rw[fldK_len];omega)]
theorem fldK_skip (tag:Int)(xs:List Int){k:Nat}(h:k<7)(hv:fldAt tag xs k=0):fldK tag xs (k+1)=fldK tag xs k:=by
 rw[←fldK_set tag xs h rfl,hv]
 apply List.ext_getElem?
 intro j
 rw[List.getElem?_set,fldK_len]
 by_cases e:k=j
 ·subst e;simp[fldK,h]
 ·rw[if_neg e]
theorem dgt_bd (x:Int):0≤dgt x∧dgt x≤255:=by unfold dgt;omega
theorem pr_bd (xs:List Int)(j:Nat):0≤pr xs j∧pr xs j≤2805:=by
 have a:=dgt_bd (xs.getD (2*j) 0)
 have b:=dgt_bd (xs.getD (2*j+1) 0)
 unfold pr;split<;>omega
end Go.Proofs.YtkjkhoglkpepiaaGreatDoor.txm
namespace Go.Proofs.YtkjkhoglkpepiaaGreatDoor.txc
open Go.RowKit txm tlvc
def ClockAt (w wr:World)(fs:List Int):Prop:=
 wr.heap[w.heap.size]? =some (.cells #[.int .i64 0,.int .i64 0,.int .i64 0,.int .i64 0,.int .i64 0,.int .i64 0,.int .i64 0] 145)∧wr.heap[w.heap.size+1]? =some (.cells (ints fs) 145)∧Below w.heap.size w wr
theorem ClockAt.drew {w wr:World}{fs:List Int}(h:ClockAt w wr fs):ClockAt w wr.drew fs:=⟨h.1,h.2.1,h.2.2.drew⟩
theorem ints_set (fs:List Int)(k:Nat)(v:Int):(ints fs).setIfInBounds k (.int .i64 v)=ints (fs.set k v):=by
 unfold ints
 rw[List.map_set]
 simp
theorem ClockAt.store {w wr:World}{fs:List Int}(h:ClockAt w wr fs)(k:Nat)(v:Int):ClockAt w (wr.setCell ⟨w.heap.size+1,k,none⟩ (.int .i64 v)) (fs.set k v):=by
 obtain⟨h1,h2,h3⟩:=h
 refine⟨?_,?_,h3.setCell (p:=⟨w.heap.size+1,k,none⟩) (by simp) _⟩
 ·rw[Below.heap_setCell _ _ _ _ (by simp)];exact h1
 ·rw[heap_set h2 k _,ints_set]
theorem ClockAt.cell {w wr:World}{fs:List Int}(h:ClockAt w wr fs){k:Nat}(hk:k<fs.length):wr.cell? ⟨w.heap.size+1,k,none⟩=some (.int .i64 (fs.getD k 0)):=by
 rw[ch_ h.2.1]
 simp[ints,List.getD_eq_getElem?_getD,List.getElem?_eq_getElem hk]
theorem ClockAt.free {w wr:World}{fs:List Int}(h:ClockAt w wr fs)(k:Nat):wr.frozen? ⟨w.heap.size+1,k,none⟩=false:=fh_ h.2.1 k
end Go.Proofs.YtkjkhoglkpepiaaGreatDoor.txc
namespace Go.Proofs.YtkjkhoglkpepiaaGreatDoor.txc
open Go.RowKit txm tlvc
def Left (tag:Int)(xs:List Int)(cap:Nat)(k:Nat)(v:Value)(w:World):Prop:=
 ∃A:Option Addr,v=.slice A (xs.length - 2*gone tag xs.length k) (cap - 2*gone tag xs.length k)∧Bys w A (xs.length - 2*gone tag xs.length k) (xs.drop (2*gone tag xs.length k))
theorem gone_le (tag:Int)(n k:Nat):2*gone tag n k≤n:=by unfold gone;omega
def pairAt (tag:Int)(n k:Nat):Prop:=(tag=23→1≤k)∧2* (if tag=23 then k - 1 else k)+2≤n
theorem pair_yes {tag:Int}{xs:List Int}{k:Nat}(h:pairAt tag xs.length k):gone tag xs.length (k+1)=gone tag xs.length k+1∧2*gone tag xs.length k+2≤xs.length∧fldAt tag xs k=10*dgt (xs.getD (2*gone tag xs.length k) 0)+dgt (xs.getD (2*gone tag xs.length k+1) 0):=by
 obtain⟨h1,h2⟩:=h
 unfold gone fldAt
 by_cases ht:tag=23
 ·simp only[ht,if_true] at h1 h2⊢
  have h1:=h1 trivial
  rw[if_neg (by omega)]
  have e:min (k - 1) (xs.length/ 2)=k - 1:=by omega
  rw[e]
  refine⟨by omega,by omega,?_⟩
  unfold pr;rw[if_pos h2]
 ·simp only[ht,if_false] at h2⊢
  have e:min k (xs.length/ 2)=k:=by omega
  rw[e]
  refine⟨by omega,by omega,?_⟩
  unfold pr;rw[if_pos h2]
theorem pair_no {tag:Int}{xs:List Int}{k:Nat}(h: ¬pairAt tag xs.length k):gone tag xs.length (k+1)=gone tag xs.length k∧fldAt tag xs k=0∧(¬(tag=23∧k=0)→xs.length - 2*gone tag xs.length k<2):=by
 unfold pairAt at h
 unfold gone fldAt
 by_cases ht:tag=23
 ·simp only[ht,if_true,true_implies] at h⊢
  by_cases hk:k=0
  ·subst hk
   refine⟨by simp,by simp,fun h=>absurd ⟨trivial,rfl⟩ h⟩
  ·have h3: ¬2* (k - 1)+2≤xs.length:=fun h4=>h ⟨by omega,h4⟩
   refine⟨by omega,?_,fun _=>by omega⟩
   rw[if_neg hk];unfold pr;rw[if_neg h3]
 ·simp only[ht,if_false,false_implies,true_and] at h⊢
  refine⟨by omega,?_,fun _=>by omega⟩
  unfold pr;rw[if_neg h]
def ints7 (fs:List Int):Value:=.agg (ints fs)
theorem clockOf_any (tag:Int)(A:Option Addr)(n cap:Nat)(xs:List Int)(w:World)(hx:Bys w A n xs)(hc:n≤cap)(hm:cap≤9223372036854775807):
 Calls Tryz.prog 95 #[.int .u8 tag,.slice A n cap] w fun e w'=>e=.returned (ints7 (fldsOf tag xs))∧Below w.heap.size w w':=by
 obtain rfl:xs.length=n:=hx.1
 obtain⟨RS,hRS⟩:=nm_ (fldsOf tag xs)
 rw[hRS]
 have HRS:=hd_ hRS
 clear hRS
 go_enter Tryz.func95,Tryz.ntmps95
 go_wp2_with fail
 have hstart:ClockAt w ((w.alloc (.cells #[.int .i64 0,.int .i64 0,.int .i64 0,.int .i64 0,.int .i64 0,.int .i64 0,.int .i64 0] 145)).alloc (.cells #[.int .i64 0,.int .i64 0,.int .i64 0,.int .i64 0,.int .i64 0,.int .i64 0,.int .i64 0] 145)) (fldK tag xs 0):=
  ⟨by rw[heap_old _ _ (by simp)];exact heap_new _ _,heap_at _ _ _ (by simp),((br_ _ _).alloc (lr_ _) _).alloc (by simp) _⟩
 have hleft:Left tag xs cap 0 (.slice A xs.length cap) w:=by
  have e:gone tag xs.length 0=0:=by unfold gone;split<;>omega
  unfold Left
  rw[e]
  exact⟨A,rfl,hx⟩
 have HS:=hd_ hstart
 have HL:=hd_ hleft
 clear hstart hleft
 go_loopw [1,6,7] (fun t1 _ t7 wr=>∃k:Nat,k≤7∧t7=.int .i64 k∧Left tag xs cap k t1 w∧ClockAt w wr (fldK tag xs k)) (fun _ _ t7 _=>8 - (intOf t7).toNat)
 case atStart=>exact⟨0,by omega,rfl,HL.out,HS.out⟩
 case round=>
  obtain⟨k,hk,rfl,⟨A1,rfl,hb1⟩,hck⟩:=hrel
  have hgl:=gone_le tag xs.length k
  by_cases hlt:k<7
  ·by_cases hp:pairAt tag xs.length k
   ·obtain⟨p1,p2,p3⟩:=pair_yes hp
    have hno: ¬(tag=23∧k=0):=fun h=>by have:=hp.1 h.1;omega
    obtain⟨G,hG⟩:=nm_ (gone tag xs.length k)
    have hleft: ∀(A2:Option Addr),Bys w A2 (xs.length - 2*G - 2) (xs.drop (2*G+2))→Left tag xs cap (k+1) (.slice A2 (xs.length - 2*G - 2) (cap - 2*G - 2)) w:=fun A2 h=>by
     unfold Left
     rw[p1,hG]
     refine⟨A2,?_,?_⟩
     ·rw[show xs.length - 2* (G+1)=xs.length - 2*G - 2 by omega,show cap - 2* (G+1)=cap - 2*G - 2 by omega]
     ·rw[show xs.length - 2* (G+1)=xs.length - 2*G - 2 by omega,show 2* (G+1)=2*G+2 by omega];exact h
    rw[hG] at p2 p3 hb1 hgl⊢
    have hset:=fldK_set tag xs hlt (v:=10*dgt (xs.getD (2*G) 0)+dgt (xs.getD (2*G+1) 0)) p3.symm
    have hcut:=hb1.cut (k:=2) (cap:=cap - 2*G) (by omega) (by omega)
    rw[List.drop_drop] at hcut
    obtain⟨b,off,rfl,hblt,hcells⟩:=(hb1.below hck.2.2).2.2 (by omega)
    have hc0:wr.cell? ⟨b,off,none⟩=some (.int .u8 (xs.getD (2*G) 0)):=by
     have:=hcells 0 (by omega);rw[Nat.add_zero] at this;rw[this];simp[List.getD_eq_getElem?_getD]
    have hc1:wr.cell? ⟨b,off+1,none⟩=some (.int .u8 (xs.getD (2*G+1) 0)):=by
     rw[hcells 1 (by omega)];simp[List.getD_eq_getElem?_getD]
    obtain⟨X0,hX0⟩:=nm_ (xs.getD (2*G) 0)
    obtain⟨X1,hX1⟩:=nm_ (xs.getD (2*G+1) 0)
    rw[hX0,hX1] at hset
    rw[hX0] at hc0
    rw[hX1] at hc1
    have hd0:=dgt_bd X0
    have hd1:=dgt_bd X1
    have hw0:IntKind.u8.wrap (X0 - 48)=dgt X0:=rfl
    have hw1:IntKind.u8.wrap (X1 - 48)=dgt X1:=rfl
    obtain⟨D0,hD0⟩:=nm_ (dgt X0)
    obtain⟨D1,hD1⟩:=nm_ (dgt X1)
    rw[hD0] at hd0 hw0 hset
    rw[hD1] at hd1 hw1 hset
    obtain⟨hd0,hd0'⟩:=hd0
    obtain⟨hd1,hd1'⟩:=hd1
    have hstore: ∀wx:World,ClockAt w wx (fldK tag xs k)→ClockAt w (wx.setCell ⟨w.heap.size+1,k,none⟩ (.int .i64 (10*D0+D1))) (fldK tag xs (k+1)):=fun wx h=>by rw[←hset];exact h.store k _
    obtain⟨L,hL⟩:=nm_ (xs.length - 2*G)
    obtain⟨C,hC⟩:=nm_ (cap - 2*G)
    have hL2:2≤L:=by omega
    have hLC:L≤C:=by omega
    rw[hL,hC] at hleft
    rw[hL] at hcut
    rw[hC] at hcut
    rw[hL,hC]
    have hcell:=hck.cell (k:=k) (by rw[fldK_len];omega)
    have hfree:=hck.free k
    have HLF:=hd_ hleft
    have HST:=hd_ hstore
    have HCU:=hd_ hcut
    have HK:=hd_ hck
    have HNO:=hd_ hno
    clear hleft hset hcells hX0 hX1 hD0 hD1 hstore hL hC p1 p2 p3 hG hb1 hgl hp hck hx hno hblt
    have hLt: ¬((L:Int)<2):=by omega
    have hl0:0<L:=by omega
    have hl1:1<L:=by omega
    have hl0':(0:Int)<L:=by omega
    have hl1':(1:Int)<L:=by omega
    have hw2:IntKind.i64.wrap D0=D0:=IntWalk.i64_in _ (by omega)
    have hw3:IntKind.i64.wrap D1=D1:=IntWalk.i64_in _ (by omega)
    have hw4:IntKind.i64.wrap (10*D0)=10*D0:=IntWalk.i64_in _ (by omega)
    have hw5:IntKind.i64.wrap (10*D0+D1)=10*D0+D1:=IntWalk.i64_in _ (by omega)
    have hkn:((k:Int)).toNat=k:=by omega
    have hk0:(0:Int)≤(k:Int):=by omega
    have hk7:(k:Int)<7:=by omega
    by_cases hz:k=0
    ·have ht:(tag==23)=false:=by
      have:tag≠23:=fun e=>HNO.out ⟨e,hz⟩
      simpa using this
     have hb0:((k:Int)==0)=true:=by simp[hz]
     clear hz
     go_wp2_with fail
     refine wp_region_still_tail 14 (by kernel_rfl) (by kernel_rfl) ?_
     simp only[List.take_succ_cons,List.take_zero,List.drop_succ_cons,List.drop_zero]
     repeat still_step
     refine wpStill_nil ?_
     change wpList _ _ _ _ _ wr.drew
     by_cases hC2:C=2
     ·have hcv:Bys w (some ⟨b,off,none⟩) (L - 2) (xs.drop (2*G+2)):=by have:=HCU.out;rwa[if_pos hC2] at this
      have HV:=hd_ hcv
      have hL2':L=2:=by omega
      subst hL2'
      subst hC2
      clear hcv hw0 hw1 hw2 hw3 hw4 hw5 hc0 hc1
      go_wp2
      go_roundw
      case rel=>exact⟨k+1,by omega,by go_num,HLF.out _ HV.out,HST.out _ HK.out.drew⟩
      case measure=>simp[intOf];omega
     ·have hcv:Bys w (some ⟨b,off+2,none⟩) (L - 2) (xs.drop (2*G+2)):=by have:=HCU.out;rw[if_neg hC2] at this;simpa[Addr.add_lit] using this
      have HV:=hd_ hcv
      clear hcv hw0 hw1 hw2 hw3 hw4 hw5 hc0 hc1
      go_wp2
      go_roundw
      case rel=>exact⟨k+1,by omega,by go_num,HLF.out _ HV.out,HST.out _ HK.out.drew⟩
      case measure=>simp[intOf];omega
    ·have hb0:((k:Int)==0)=false:=by simp[hz]
     clear hz
     go_wp2_with fail
     refine wp_region_still_tail 14 (by kernel_rfl) (by kernel_rfl) ?_
     simp only[List.take_succ_cons,List.take_zero,List.drop_succ_cons,List.drop_zero]
     repeat still_step
     refine wpStill_nil ?_
     change wpList _ _ _ _ _ wr.drew
     by_cases hC2:C=2
     ·have hcv:Bys w (some ⟨b,off,none⟩) (L - 2) (xs.drop (2*G+2)):=by have:=HCU.out;rwa[if_pos hC2] at this
      have HV:=hd_ hcv
      have hL2':L=2:=by omega
      subst hL2'
      subst hC2
      clear hcv hw0 hw1 hw2 hw3 hw4 hw5 hc0 hc1
      go_wp2
      go_roundw
      case rel=>exact⟨k+1,by omega,by go_num,HLF.out _ HV.out,HST.out _ HK.out.drew⟩
      case measure=>simp[intOf];omega
     ·have hcv:Bys w (some ⟨b,off+2,none⟩) (L - 2) (xs.drop (2*G+2)):=by have:=HCU.out;rw[if_neg hC2] at this;simpa[Addr.add_lit] using this
      have HV:=hd_ hcv
      clear hcv hw0 hw1 hw2 hw3 hw4 hw5 hc0 hc1
      go_wp2
      go_roundw
      case rel=>exact⟨k+1,by omega,by go_num,HLF.out _ HV.out,HST.out _ HK.out.drew⟩
      case measure=>simp[intOf];omega
   ·obtain⟨p1,p2,p3⟩:=pair_no hp
    have hleft:Left tag xs cap (k+1) (.slice A1 (xs.length - 2*gone tag xs.length k) (cap - 2*gone tag xs.length k)) w:=by unfold Left;rw[p1];exact⟨A1,rfl,hb1⟩
    have hskip:=fldK_skip tag xs hlt p2
    have hck2:ClockAt w wr (fldK tag xs (k+1)):=by rw[hskip];exact hck
    obtain⟨G,hG⟩:=nm_ (gone tag xs.length k)
    rw[hG] at p3 hleft hb1 hgl⊢
    obtain⟨L,hL⟩:=nm_ (xs.length - 2*G)
    obtain⟨C,hC⟩:=nm_ (cap - 2*G)
    rw[hL,hC] at hleft
    rw[hL] at p3
    rw[hL,hC]
    have HLF:=hd_ hleft
    have HK:=hd_ hck2
    have HP:=hd_ p3
    clear hleft hskip hck2 hck hL hC hG hb1 hgl hp p1 p2 p3 hx
    by_cases hz:k=0
    ·have hb0:((k:Int)==0)=true:=by simp[hz]
     by_cases htg:tag=23
     ·have ht:(tag==23)=true:=by simp[htg]
      clear hz htg
      go_wp2
      go_roundw
      case rel=>exact⟨k+1,by omega,by go_num,HLF.out,HK.out⟩
      case measure=>simp[intOf];omega
     ·have ht:(tag==23)=false:=by simpa using htg
      have hLt:(L:Int)<2:=by have:=HP.out (fun h=>htg h.1);omega
      clear hz htg
      go_wp2
      go_roundw
      case rel=>exact⟨k+1,by omega,by go_num,HLF.out,HK.out⟩
      case measure=>simp[intOf];omega
    ·have hb0:((k:Int)==0)=false:=by simp[hz]
     have hLt:(L:Int)<2:=by have:=HP.out (fun h=>hz h.2);omega
     clear hz
     go_wp2
     go_roundw
     case rel=>exact⟨k+1,by omega,by go_num,HLF.out,HK.out⟩
     case measure=>simp[intOf];omega
  ·have hk7:k=7:=by omega
   have hck7:ClockAt w wr (fldK tag xs 7):=by rw[←hk7];exact hck
   have HK7:=hd_ hk7
   have r0:wr.cell? ⟨w.heap.size,0,none⟩=some (.int .i64 0):=by rw[ch_ hck.1];rfl
   have f0:wr.frozen? ⟨w.heap.size,0,none⟩=false:=fh_ hck.1 0
   have r1:wr.cell? ⟨w.heap.size,1,none⟩=some (.int .i64 0):=by rw[ch_ hck.1];rfl
   have f1:wr.frozen? ⟨w.heap.size,1,none⟩=false:=fh_ hck.1 1
   have r2:wr.cell? ⟨w.heap.size,2,none⟩=some (.int .i64 0):=by rw[ch_ hck.1];rfl
   have f2:wr.frozen? ⟨w.heap.size,2,none⟩=false:=fh_ hck.1 2
   have r3:wr.cell? ⟨w.heap.size,3,none⟩=some (.int .i64 0):=by rw[ch_ hck.1];rfl
   have f3:wr.frozen? ⟨w.heap.size,3,none⟩=false:=fh_ hck.1 3
   have r4:wr.cell? ⟨w.heap.size,4,none⟩=some (.int .i64 0):=by rw[ch_ hck.1];rfl
   have f4:wr.frozen? ⟨w.heap.size,4,none⟩=false:=fh_ hck.1 4
   have r5:wr.cell? ⟨w.heap.size,5,none⟩=some (.int .i64 0):=by rw[ch_ hck.1];rfl
   have f5:wr.frozen? ⟨w.heap.size,5,none⟩=false:=fh_ hck.1 5
   have r6:wr.cell? ⟨w.heap.size,6,none⟩=some (.int .i64 0):=by rw[ch_ hck.1];rfl
   have f6:wr.frozen? ⟨w.heap.size,6,none⟩=false:=fh_ hck.1 6
   clear hk7 hck hb1 hgl
   have fin: ∀(c0 c1 c2 c3 c4 c5 c6:Int) (wf:World),fldsOf tag xs=[c0,c1,c2,c3,c4,c5,c6]→ClockAt w wf [c0,c1,c2,c3,c4,c5,c6]→(∀j,j<7→wf.cell? ⟨w.heap.size+1,j,none⟩=some (.int .i64 ([c0,c1,c2,c3,c4,c5,c6].getD j 0)))∧wf.heap[w.heap.size]? =some (.cells #[.int .i64 0,.int .i64 0,.int .i64 0,.int .i64 0,.int .i64 0,.int .i64 0,.int .i64 0] 145)∧Below w.heap.size w wf:=fun c0 c1 c2 c3 c4 c5 c6 wf _ h=>⟨fun j hj=>h.cell (by simpa using hj),h.1,h.2.2⟩
   by_cases ht:tag=23
   ·subst ht
    have e7:fldK 23 xs 7=[0,pr xs 0,pr xs 1,pr xs 2,pr xs 3,pr xs 4,pr xs 5]:=rfl
    have hfl:fldsOf 23 xs=[cent (pr xs 0),pr xs 0,pr xs 1,pr xs 2,pr xs 3,pr xs 4,pr xs 5]:=if_pos rfl
    rw[e7] at hck7
    have HR:=hd_ (HRS.out.symm.trans hfl)
    clear HRS
    have hA:=hck7.store 0 20
    have hBk:=hA.store 0 19
    obtain⟨p0,hp0⟩:=nm_ (pr xs 0)
    obtain⟨p1,hp1⟩:=nm_ (pr xs 1)
    obtain⟨p2,hp2⟩:=nm_ (pr xs 2)
    obtain⟨p3,hp3⟩:=nm_ (pr xs 3)
    obtain⟨p4,hp4⟩:=nm_ (pr xs 4)
    obtain⟨p5,hp5⟩:=nm_ (pr xs 5)
    rw[hp0,hp1,hp2,hp3,hp4,hp5] at hck7 hA hBk HR
    clear hp0 hp1 hp2 hp3 hp4 hp5 e7 hfl fin hx
    simp only[qb_] at hA hBk
    have z0:=hck7.cell (k:=0) (by simp)
    have z1:wr.frozen? ⟨w.heap.size+1,0,none⟩=false:=hck7.free 0
    have a0:=hA.cell (k:=0) (by simp)
    have a1:=hA.cell (k:=1) (by simp)
    have a2:=hA.cell (k:=2) (by simp)
    have a3:=hA.cell (k:=3) (by simp)
    have a4:=hA.cell (k:=4) (by simp)
    have a5:=hA.cell (k:=5) (by simp)
    have a6:=hA.cell (k:=6) (by simp)
    have af:=hA.free 0
    have b0:=hBk.cell (k:=0) (by simp)
    have b1:=hBk.cell (k:=1) (by simp)
    have b2:=hBk.cell (k:=2) (by simp)
    have b3:=hBk.cell (k:=3) (by simp)
    have b4:=hBk.cell (k:=4) (by simp)
    have b5:=hBk.cell (k:=5) (by simp)
    have b6:=hBk.cell (k:=6) (by simp)
    simp only[List.getD_cons_zero,List.getD_cons_succ] at z0 a0 a1 a2 a3 a4 a5 a6 b0 b1 b2 b3 b4 b5 b6
    have HA:=hd_ hA
    have HB:=hd_ hBk
    clear hA hBk hck7
    by_cases h50:50≤p0
    ·rw[show cent p0=19 from if_pos h50] at HR
     go_wp2
     have k0:=HB.out.1
     have hk7:=heap_set7 k0 (.int .i64 19) (.int .i64 p0) (.int .i64 p1) (.int .i64 p2) (.int .i64 p3) (.int .i64 p4) (.int .i64 p5)
     refine bodyPost_ret (v:=.agg #[.int .i64 19,.int .i64 p0,.int .i64 p1,.int .i64 p2,.int .i64 p3,.int .i64 p4,.int .i64 p5]) ?_ rfl ⟨by rw[HR.out];rfl,below_set7 HB.out.2.2 (lr_ _) _ _ _ _ _ _ _⟩
     generalize (((((((((wr.setCell ⟨w.heap.size+1,0,none⟩ (.int .i64 20)).setCell ⟨w.heap.size+1,0,none⟩ (.int .i64 19)).setCell ⟨w.heap.size,0,none⟩ (.int .i64 19)).setCell ⟨w.heap.size,1,none⟩ (.int .i64 p0)).setCell ⟨w.heap.size,2,none⟩ (.int .i64 p1)).setCell ⟨w.heap.size,3,none⟩ (.int .i64 p2)).setCell ⟨w.heap.size,4,none⟩ (.int .i64 p3)).setCell ⟨w.heap.size,5,none⟩ (.int .i64 p4)).setCell ⟨w.heap.size,6,none⟩ (.int .i64 p5))=w9 at hk7⊢
     have hce: ∀j,w9.cell? ⟨w.heap.size,j,none⟩=_:=fun j=>ch_ hk7 j
     simp[results,Tryz.results95,go_sem,hce]
    ·rw[show cent p0=20 from if_neg h50] at HR
     go_wp2
     have k0:=HA.out.1
     have hk7:=heap_set7 k0 (.int .i64 20) (.int .i64 p0) (.int .i64 p1) (.int .i64 p2) (.int .i64 p3) (.int .i64 p4) (.int .i64 p5)
     refine bodyPost_ret (v:=.agg #[.int .i64 20,.int .i64 p0,.int .i64 p1,.int .i64 p2,.int .i64 p3,.int .i64 p4,.int .i64 p5]) ?_ rfl ⟨by rw[HR.out];rfl,below_set7 HA.out.2.2 (lr_ _) _ _ _ _ _ _ _⟩
     generalize ((((((((wr.setCell ⟨w.heap.size+1,0,none⟩ (.int .i64 20)).setCell ⟨w.heap.size,0,none⟩ (.int .i64 20)).setCell ⟨w.heap.size,1,none⟩ (.int .i64 p0)).setCell ⟨w.heap.size,2,none⟩ (.int .i64 p1)).setCell ⟨w.heap.size,3,none⟩ (.int .i64 p2)).setCell ⟨w.heap.size,4,none⟩ (.int .i64 p3)).setCell ⟨w.heap.size,5,none⟩ (.int .i64 p4)).setCell ⟨w.heap.size,6,none⟩ (.int .i64 p5))=w9 at hk7⊢
     have hce: ∀j,w9.cell? ⟨w.heap.size,j,none⟩=_:=fun j=>ch_ hk7 j
     simp[results,Tryz.results95,go_sem,hce]
   ·have htb:(tag==23)=false:=by simpa using ht
    have hfl:fldsOf tag xs=[pr xs 0,pr xs 1,pr xs 2,pr xs 3,pr xs 4,pr xs 5,pr xs 6]:=if_neg ht
    have e7:fldK tag xs 7=[pr xs 0,pr xs 1,pr xs 2,pr xs 3,pr xs 4,pr xs 5,pr xs 6]:=by simp[fldK,fldAt,ht,List.range,List.range.loop]
    rw[e7] at hck7
    have HR:=hd_ (HRS.out.symm.trans hfl)
    clear HRS
    obtain⟨p0,hp0⟩:=nm_ (pr xs 0)
    obtain⟨p1,hp1⟩:=nm_ (pr xs 1)
    obtain⟨p2,hp2⟩:=nm_ (pr xs 2)
    obtain⟨p3,hp3⟩:=nm_ (pr xs 3)
    obtain⟨p4,hp4⟩:=nm_ (pr xs 4)
    obtain⟨p5,hp5⟩:=nm_ (pr xs 5)
    obtain⟨p6,hp6⟩:=nm_ (pr xs 6)
    rw[hp0,hp1,hp2,hp3,hp4,hp5,hp6] at hck7 HR
    clear hp0 hp1 hp2 hp3 hp4 hp5 hp6 e7 hfl fin hx ht
    have a0:=hck7.cell (k:=0) (by simp)
    have a1:=hck7.cell (k:=1) (by simp)
    have a2:=hck7.cell (k:=2) (by simp)
    have a3:=hck7.cell (k:=3) (by simp)
    have a4:=hck7.cell (k:=4) (by simp)
    have a5:=hck7.cell (k:=5) (by simp)
    have a6:=hck7.cell (k:=6) (by simp)
    simp only[List.getD_cons_zero,List.getD_cons_succ] at a0 a1 a2 a3 a4 a5 a6
    have HA:=hd_ hck7
    clear hck7
    go_wp2
    have k0:=HA.out.1
    have hk7:=heap_set7 k0 (.int .i64 p0) (.int .i64 p1) (.int .i64 p2) (.int .i64 p3) (.int .i64 p4) (.int .i64 p5) (.int .i64 p6)
    refine bodyPost_ret (v:=.agg #[.int .i64 p0,.int .i64 p1,.int .i64 p2,.int .i64 p3,.int .i64 p4,.int .i64 p5,.int .i64 p6]) ?_ rfl ⟨by rw[HR.out];rfl,below_set7 HA.out.2.2 (lr_ _) _ _ _ _ _ _ _⟩
    generalize (((((((wr.setCell ⟨w.heap.size,0,none⟩ (.int .i64 p0)).setCell ⟨w.heap.size,1,none⟩ (.int .i64 p1)).setCell ⟨w.heap.size,2,none⟩ (.int .i64 p2)).setCell ⟨w.heap.size,3,none⟩ (.int .i64 p3)).setCell ⟨w.heap.size,4,none⟩ (.int .i64 p4)).setCell ⟨w.heap.size,5,none⟩ (.int .i64 p5)).setCell ⟨w.heap.size,6,none⟩ (.int .i64 p6))=w9 at hk7⊢
    have hce: ∀j,w9.cell? ⟨w.heap.size,j,none⟩=_:=fun j=>ch_ hk7 j
    simp[results,Tryz.results95,go_sem,hce]
end Go.Proofs.YtkjkhoglkpepiaaGreatDoor.txc
namespace Go.Proofs.YtkjkhoglkpepiaaGreatDoor.txc
open Go.RowKit txm tlvc
theorem mIx_step (m:Int)(k:Nat):min (m - 1).toNat (k+1)=if (k:Int)+1<m then k+1 else min (m - 1).toNat k:=by split<;>omega
theorem mIx_at (m:Int)(k:Nat)(h:(k:Int)+1<m):min (m - 1).toNat k=k:=by omega
theorem daysTo_same (y D:Int)(w:World)(h:0≤y)(h2:y≤1000000)(hD:Hid (dto y=D)):
 Calls Tryz.prog 167 #[.int .i64 y] w fun e w'=>e=.returned (.int .i64 D)∧w'=w:=
 (daysTo_any y w h h2).mono fun e w' hh=>⟨by rw[←hD.out];exact hh.1,hh.2.symm⟩
theorem time_any (c0 c1 c2 c3 c4 c5 c6:Int)(w:World)(h0:0≤c0∧c0≤2805)(h1:0≤c1∧c1≤2805)(h2:0≤c2∧c2≤2805)(h3:0≤c3∧c3≤2805)(h4:0≤c4∧c4≤2805)(h5:0≤c5∧c5≤2805)(h6:0≤c6∧c6≤2805):
 Calls Tryz.prog 96 #[.agg #[.int .i64 c0,.int .i64 c1,.int .i64 c2,.int .i64 c3,.int .i64 c4,.int .i64 c5,.int .i64 c6]] w fun e w'=>e=.returned (.int .i64 (secAt (100*c0+c1) c2 c3 c4 c5 c6))∧Below w.heap.size w w':=by
 obtain⟨h0,h0'⟩:=h0
 obtain⟨h1,h1'⟩:=h1
 obtain⟨h2,h2'⟩:=h2
 obtain⟨h3,h3'⟩:=h3
 obtain⟨h4,h4'⟩:=h4
 obtain⟨h5,h5'⟩:=h5
 obtain⟨h6,h6'⟩:=h6
 obtain⟨Y,hY⟩:=nm_ (100*c0+c1)
 have hy0:0≤Y:=by omega
 have hy1:Y≤283305:=by omega
 have hy2:Y≤1000000:=by omega
 have hd:=dto_bd hy0 (by omega)
 have hl:=lp_01 hy0
 obtain⟨Dt,hDt⟩:=nm_ (dto Y)
 obtain⟨L,hL⟩:=nm_ (lp Y)
 rw[hDt] at hd
 rw[hL] at hl
 obtain⟨hd0,hd1⟩:=hd
 obtain⟨hl0,hl1⟩:=hl
 have hres:secAt Y c2 c3 c4 c5 c6= -631152000+ (((Dt+c3 - 1+cum L (mIx c2))*24+c4)*60+c5)*60+c6:=by unfold secAt daysAt;rw[hDt,hL]
 have hcb:=cum_bd hl0 hl1 (mIx c2)
 obtain⟨hcb0,hcb1⟩:=hcb
 obtain⟨RS,hRS⟩:=nm_ (secAt (100*c0+c1) c2 c3 c4 c5 c6)
 rw[hRS]
 rw[hY,hres] at hRS
 have HRS:=hd_ hRS
 have HD:=hd_ hDt
 have HL:=hd_ hL
 clear hRS hres hDt hL
 go_enter Tryz.func96,Tryz.ntmps96
 go_wp2_with fail
 have hbw:Below w.heap.size w (w.alloc (.cells #[.int .i64 c0,.int .i64 c1,.int .i64 c2,.int .i64 c3,.int .i64 c4,.int .i64 c5,.int .i64 c6] 145)):=(br_ _ _).alloc (lr_ _) _
 have q0:=heap_new w (.cells #[.int .i64 c0,.int .i64 c1,.int .i64 c2,.int .i64 c3,.int .i64 c4,.int .i64 c5,.int .i64 c6] 145)
 obtain⟨wb,hwb⟩:=nm_ (w.alloc (.cells #[.int .i64 c0,.int .i64 c1,.int .i64 c2,.int .i64 c3,.int .i64 c4,.int .i64 c5,.int .i64 c6] 145))
 rw[hwb] at q0 hbw⊢
 clear hwb
 have hcell: ∀wx:World,Below wb.heap.size wb wx→wx.heap[w.heap.size]? =some (.cells #[.int .i64 c0,.int .i64 c1,.int .i64 c2,.int .i64 c3,.int .i64 c4,.int .i64 c5,.int .i64 c6] 145):=fun wx h=>by
  rw[h.block _ (Array.getElem?_eq_some_iff.1 q0).1];exact q0
 have d2:wb.cell? ⟨w.heap.size,2,none⟩=some (.int .i64 c2):=by rw[ch_ q0];rfl
 have d3:wb.cell? ⟨w.heap.size,3,none⟩=some (.int .i64 c3):=by rw[ch_ q0];rfl
 have HCE:=hd_ hcell
 clear hcell q0
 have hw0:IntKind.i64.wrap (Dt+c3)=Dt+c3:=IntWalk.i64_in _ (by omega)
 have hw1:IntKind.i64.wrap (Dt+c3 - 1)=Dt+c3 - 1:=IntWalk.i64_in _ (by omega)
 go_quiet ((go_at_call 167;exact Calls.quiet_of_same (daysTo_same Y Dt _ hy0 hy2 HD)))
 obtain⟨D0,hD0⟩:=nm_ (Dt+c3 - 1)
 rw[hD0] at hw1 HRS⊢
 have hD0a: -712223≤D0:=by omega
 have hD0b:D0≤364540832:=by omega
 clear hw0 hw1 hD0
 go_wp2_with fail
 refine(monthsOf_any _ _ hy0 (by omega)).mono ?_
 rw[HL.out]
 rintro e w1 ⟨rfl,hb1⟩
 have hb2:Below wb.heap.size wb w1:=(below_drewN nq).trans (by simpa using hb1)
 have hB:=hbw.trans (hb2.mono hbw.size)
 have q1:=HCE.out w1 hb2
 have d2:w1.cell? ⟨w.heap.size,2,none⟩=some (.int .i64 c2):=by rw[ch_ q1];rfl
 have d4:w1.cell? ⟨w.heap.size,4,none⟩=some (.int .i64 c4):=by rw[ch_ q1];rfl
 have d5:w1.cell? ⟨w.heap.size,5,none⟩=some (.int .i64 c5):=by rw[ch_ q1];rfl
 have d6:w1.cell? ⟨w.heap.size,6,none⟩=some (.int .i64 c6):=by rw[ch_ q1];rfl
 clear hb1 hb2 q1 hbw d3
 go_wp2_with fail
 go_loop [4,5,6,21] (fun t4 _ _ t21=>∃k:Nat,k≤12∧t21=.int .i64 k∧t4=.int .i64 (D0+cum L (min (c2 - 1).toNat k))) (fun _ _ _ t21=>13 - (intOf t21).toNat)
 case atStart=>exact⟨0,by omega,rfl,by simp[cum]⟩
 case round=>
  obtain⟨k,hk,rfl,rfl⟩:=hrel
  have hst:=mIx_step c2 k
  have hcb:=cum_bd hl0 hl1 (min (c2 - 1).toNat k)
  by_cases hlt:k<12
  ·have hix:=mons_at L hlt
   have hmb:=mon_bd hl0 hl1 k
   have hcs:=cum_step L hlt
   obtain⟨hmb0,hmb1⟩:=hmb
   by_cases hc:(k:Int)+1<c2
   ·rw[if_pos hc] at hst
    have hat:=mIx_at c2 k hc
    rw[hat] at hcb⊢
    have hnx:D0+cum L (min (c2 - 1).toNat (k+1))=D0+cum L k+mon L k:=by rw[hst,hcs];omega
    have HN:=hd_ hnx
    clear hst hat hcs hnx
    obtain⟨hcb0,hcb1⟩:=hcb
    go_wp2
    go_round
    case rel=>exact⟨k+1,by omega,by go_num,by rw[HN.out]⟩
    case measure=>simp[intOf];omega
   ·rw[if_neg hc] at hst
    have HN:=hd_ hst
    clear hst hcs
    obtain⟨hcb0,hcb1⟩:=hcb
    go_wp2
    go_round
    case rel=>exact⟨k+1,by omega,by go_num,by rw[HN.out]⟩
    case measure=>simp[intOf];omega
  ·have hk12:k=12:=by omega
   have hcb:=cum_bd hl0 hl1 (mIx c2)
   obtain⟨E,hE⟩:=nm_ (D0+cum L (mIx c2))
   have hEk:D0+cum L (min (c2 - 1).toNat k)=E:=by rw[hk12];exact hE
   rw[hE] at HRS
   rw[hEk]
   have hE0: -712223≤E:=by omega
   have hE1:E≤364541198:=by omega
   have HK:=hd_ hk12
   clear hk12 hE hEk hst hcb
   go_wp2
   go_ret
   exact⟨ret_i64 HRS.out,hB⟩
end Go.Proofs.YtkjkhoglkpepiaaGreatDoor.txc
namespace Go.Proofs.YtkjkhoglkpepiaaGreatDoor.txc
open Go.RowKit txm tlvc
instance (t:Int) (xs:List Int):Decidable (OkT t xs):=by unfold OkT;infer_instance
def timeN (t:Int)(xs:List Int):Int:=if OkT t xs then timeS t xs else 0
def timeE (t:Int)(xs:List Int):Int:=if OkT t xs then 0 else 32
theorem cent_bd (n:Int):0≤cent n∧cent n≤2805:=by unfold cent;split<;>omega
theorem flds_parts (t:Int)(xs:List Int): ∃c0 c1 c2 c3 c4 c5 c6,fldsOf t xs=[c0,c1,c2,c3,c4,c5,c6]∧(0≤c0∧c0≤2805)∧(0≤c1∧c1≤2805)∧(0≤c2∧c2≤2805)∧(0≤c3∧c3≤2805)∧(0≤c4∧c4≤2805)∧(0≤c5∧c5≤2805)∧(0≤c6∧c6≤2805):=by
 unfold fldsOf
 split
 ·exact⟨_,_,_,_,_,_,_,rfl,cent_bd _,pr_bd _ _,pr_bd _ _,pr_bd _ _,pr_bd _ _,pr_bd _ _,pr_bd _ _⟩
 ·exact⟨_,_,_,_,_,_,_,rfl,pr_bd _ _,pr_bd _ _,pr_bd _ _,pr_bd _ _,pr_bd _ _,pr_bd _ _,pr_bd _ _⟩
theorem Time_any (t:Int)(A:Option Addr)(n cap:Nat)(xs:List Int)(w:World)(hx:Bys w A n xs)(hc:n≤cap)(hm:cap≤9223372036854775807):
 Calls Tryz.prog 44 #[.int .u8 t,.slice A n cap] w fun e w'=>e=.returned (.tuple #[.int .i64 (timeN t xs),.int .i64 (timeE t xs)])∧Below w.heap.size w w':=by
 obtain⟨c0,c1,c2,c3,c4,c5,c6,hf,b0,b1,b2,b3,b4,b5,b6⟩:=flds_parts t xs
 have hs:secAt (100*c0+c1) c2 c3 c4 c5 c6=timeS t xs:=by unfold timeS secOf;rw[hf];rfl
 have hv:ints7 (fldsOf t xs)=.agg #[.int .i64 c0,.int .i64 c1,.int .i64 c2,.int .i64 c3,.int .i64 c4,.int .i64 c5,.int .i64 c6]:=by rw[hf];rfl
 have hok:OkT t xs↔InR (timeS t xs)∧tagOf (timeS t xs)=t∧bodyOf (timeS t xs)=xs:=Iff.rfl
 obtain⟨S,hS⟩:=nm_ (timeS t xs)
 obtain⟨N,hN⟩:=nm_ (timeN t xs)
 obtain⟨E,hE⟩:=nm_ (timeE t xs)
 have hN':(OkT t xs→N=S)∧(¬OkT t xs→N=0):=by
  rw[←hN,←hS];unfold timeN
  exact⟨fun h=>if_pos h,fun h=>if_neg h⟩
 have hE':(OkT t xs→E=0)∧(¬OkT t xs→E=32):=by
  rw[←hE];unfold timeE
  exact⟨fun h=>if_pos h,fun h=>if_neg h⟩
 rw[hN,hE]
 rw[hS] at hs hok
 have HV:=hd_ hv
 have HS:=hd_ hs
 have HO:=hd_ hok
 have HN:=hd_ hN'
 have HE:=hd_ hE'
 have hfx:=hx.2.1
 clear hv hs hok hN' hE' hf hS hN hE
 go_enter Tryz.func44,Tryz.ntmps44
 go_wp2_with fail
 refine(clockOf_any _ _ _ _ _ _ hx hc hm).mono ?_
 rw[HV.out]
 rintro e w1 ⟨rfl,hb1⟩
 go_wp2_with fail
 refine(time_any _ _ _ _ _ _ _ _ b0 b1 b2 b3 b4 b5 b6).mono ?_
 rw[HS.out]
 rintro e w2 ⟨rfl,hb2⟩
 have hB2:=then_ hb1 hb2
 clear hb1 hb2 b0 b1 b2 b3 b4 b5 b6
 by_cases hr:InR S
 ·obtain⟨T,hT⟩:=nm_ (tagOf S)
  obtain⟨ys,hys⟩:=nm_ (bodyOf S)
  have hfy:=body_fit hr
  rw[hys] at hfy
  have hok2:OkT t xs↔T=t∧ys=xs:=by rw[HO.out,hT,hys];exact⟨fun h=>h.2,fun h=>⟨hr,h⟩⟩
  have HT:=hd_ hT
  have HY:=hd_ hys
  clear hT hys HO
  go_wp2_with fail
  refine(putTime_in _ _ hr).mono ?_
  rw[HT.out,HY.out]
  rintro e w3 ⟨A3,c3',rfl,hh,hb3⟩
  have hB3:=then_ hB2 hb3
  have hy:=hh.1
  have hx3:=hx.below hB3
  clear hB2 hb3 hh hx
  by_cases ht:T=t
  ·have htb:(T !=t)=false:=by simp[ht]
   by_cases hxy:ys=xs
   ·have hs1:sameB ys xs=true:=(sameB_iff hfy hfx).2 hxy
    have ho:OkT t xs:=hok2.2 ⟨ht,hxy⟩
    have e1:=HN.out.1 ho
    have e2:=HE.out.1 ho
    have H1:=hd_ hs1
    clear hok2 hxy ht hs1 ho HN HE
    go_wp2_with fail
    refine(equal_any _ _ _ _ _ _ _ _ _ hy hx3).mono ?_
    rw[H1.out]
    rintro e w4 ⟨rfl,rfl⟩
    go_wp2
    go_ret2
    exact⟨by rw[e1,e2];rfl,hB3⟩
   ·have hs1:sameB ys xs=false:=sameB_no hfy hfx hxy
    have ho: ¬OkT t xs:=fun h=>hxy (hok2.1 h).2
    have e1:=HN.out.2 ho
    have e2:=HE.out.2 ho
    have H1:=hd_ hs1
    clear hok2 hxy ht hs1 ho HN HE
    go_wp2_with fail
    refine(equal_any _ _ _ _ _ _ _ _ _ hy hx3).mono ?_
    rw[H1.out]
    rintro e w4 ⟨rfl,rfl⟩
    go_wp2
    go_ret2
    exact⟨by rw[e1,e2];rfl,hB3⟩
  ·have htb:(T !=t)=true:=by simp[ht]
   have ho: ¬OkT t xs:=fun h=>ht (hok2.1 h).1
   have e1:=HN.out.2 ho
   have e2:=HE.out.2 ho
   clear hok2 ht ho HN HE
   go_wp2
   go_ret2
   exact⟨by rw[e1,e2];rfl,hB3⟩
 ·have ho: ¬OkT t xs:=fun h=>hr (HO.out.1 h).1
  have e1:=HN.out.2 ho
  have e2:=HE.out.2 ho
  have hout:=out_of hr
  clear ho HN HE HO hr
  go_wp2_with fail
  refine(putTime_out _ _ hout).mono ?_
  rintro e w3 ⟨A3,c3',rfl,hh,hb3⟩
  have hB3:=then_ hB2 hb3
  clear hB2 hb3 hh
  go_wp2
  go_ret2
  exact⟨by rw[e1,e2];rfl,hB3⟩
end Go.Proofs.YtkjkhoglkpepiaaGreatDoor.txc
