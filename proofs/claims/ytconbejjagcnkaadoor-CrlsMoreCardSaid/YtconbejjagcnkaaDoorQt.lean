/- Times there and back: plain. -/
import Derived.Test.YtconbejjagcnkaaDoorXb
set_option maxRecDepth 100000
set_option maxHeartbeats 8000000
set_option linter.unusedVariables false
set_option linter.unusedSimpArgs false
namespace Go.Proofs.YtconbejjagcnkaaDoor.txm
open Go.RowKit tlvc
theorem dto_2050:dto 2050=36525:=by decide
theorem tag_year {s:Int}(h:InR s):(2524608000≤s)↔2050≤yOf s:=by
  obtain⟨a,b,c,d⟩:=y_spec h
  unfold dayOf at a b
  constructor
  · intro hs
    by_cases e:2050≤yOf s
    · exact e
    · have:=dto_mono (a:=yOf s+1) (b:=2050) (by omega) (by omega)
      rw[dto_2050] at this
      omega
  · intro hs
    have:=dto_mono (a:=2050) (b:=yOf s) (by omega) hs
    rw[dto_2050] at this
    omega
theorem dgt_lo {n:Int}(h:0≤n)(h2:n≤99):dgt (48+n/ 10)=n/ 10∧dgt (48+n%10)=n%10:=by unfold dgt;omega
theorem ten {n:Int}:10* (n/ 10)+n%10=n:=by omega
theorem pr_wr {a:Int}(h:0≤a)(h2:a≤99):10*dgt (48+a/ 10)+dgt (48+a%10)=a:=by rw[(dgt_lo h h2).1,(dgt_lo h h2).2];exact ten
theorem flds_wrs23 {c0 c1 c2 c3 c4 c5 c6:Int}(h:Flds [c0,c1,c2,c3,c4,c5,c6])(hc:cent c1=c0):fldsOf 23 (wrs 23 [c0,c1,c2,c3,c4,c5,c6])=[c0,c1,c2,c3,c4,c5,c6]:=by
  have k1:=h c1 (by simp);have k2:=h c2 (by simp);have k3:=h c3 (by simp);have k4:=h c4 (by simp);have k5:=h c5 (by simp);have k6:=h c6 (by simp)
  have e1:=pr_wr k1.1 k1.2;have e2:=pr_wr k2.1 k2.2;have e3:=pr_wr k3.1 k3.2;have e4:=pr_wr k4.1 k4.2;have e5:=pr_wr k5.1 k5.2;have e6:=pr_wr k6.1 k6.2
  have p0:pr (wrs 23 [c0,c1,c2,c3,c4,c5,c6]) 0=c1:=by simpa[pr,wrs,wr2] using e1
  have p1:pr (wrs 23 [c0,c1,c2,c3,c4,c5,c6]) 1=c2:=by simpa[pr,wrs,wr2] using e2
  have p2:pr (wrs 23 [c0,c1,c2,c3,c4,c5,c6]) 2=c3:=by simpa[pr,wrs,wr2] using e3
  have p3:pr (wrs 23 [c0,c1,c2,c3,c4,c5,c6]) 3=c4:=by simpa[pr,wrs,wr2] using e4
  have p4:pr (wrs 23 [c0,c1,c2,c3,c4,c5,c6]) 4=c5:=by simpa[pr,wrs,wr2] using e5
  have p5:pr (wrs 23 [c0,c1,c2,c3,c4,c5,c6]) 5=c6:=by simpa[pr,wrs,wr2] using e6
  unfold fldsOf
  rw[if_pos rfl,p0,p1,p2,p3,p4,p5,hc]
theorem flds_wrs24 {c0 c1 c2 c3 c4 c5 c6:Int}(h:Flds [c0,c1,c2,c3,c4,c5,c6]):fldsOf 24 (wrs 24 [c0,c1,c2,c3,c4,c5,c6])=[c0,c1,c2,c3,c4,c5,c6]:=by
  have k0:=h c0 (by simp)
  have k1:=h c1 (by simp);have k2:=h c2 (by simp);have k3:=h c3 (by simp);have k4:=h c4 (by simp);have k5:=h c5 (by simp);have k6:=h c6 (by simp)
  have e0:=pr_wr k0.1 k0.2
  have e1:=pr_wr k1.1 k1.2;have e2:=pr_wr k2.1 k2.2;have e3:=pr_wr k3.1 k3.2;have e4:=pr_wr k4.1 k4.2;have e5:=pr_wr k5.1 k5.2;have e6:=pr_wr k6.1 k6.2
  have p0:pr (wrs 24 [c0,c1,c2,c3,c4,c5,c6]) 0=c0:=by simpa[pr,wrs,wr2] using e0
  have p1:pr (wrs 24 [c0,c1,c2,c3,c4,c5,c6]) 1=c1:=by simpa[pr,wrs,wr2] using e1
  have p2:pr (wrs 24 [c0,c1,c2,c3,c4,c5,c6]) 2=c2:=by simpa[pr,wrs,wr2] using e2
  have p3:pr (wrs 24 [c0,c1,c2,c3,c4,c5,c6]) 3=c3:=by simpa[pr,wrs,wr2] using e3
  have p4:pr (wrs 24 [c0,c1,c2,c3,c4,c5,c6]) 4=c4:=by simpa[pr,wrs,wr2] using e4
  have p5:pr (wrs 24 [c0,c1,c2,c3,c4,c5,c6]) 5=c5:=by simpa[pr,wrs,wr2] using e5
  have p6:pr (wrs 24 [c0,c1,c2,c3,c4,c5,c6]) 6=c6:=by simpa[pr,wrs,wr2] using e6
  unfold fldsOf
  rw[if_neg (by decide),p0,p1,p2,p3,p4,p5,p6]
theorem flds_back {s:Int}(h:InR s):fldsOf (tagOf s) (bodyOf s)=clk s:=by
  have hf:=clk_flds h
  have hy:=y_spec h
  have ht:=tag_year h
  unfold bodyOf tagOf
  by_cases hs:2524608000≤s
  · rw[if_pos hs];exact flds_wrs24 hf
  · rw[if_neg hs]
    refine flds_wrs23 hf ?_
    have: ¬2050≤yOf s:=fun h=>hs (ht.2 h)
    unfold cent
    split<;>omega
theorem secAt_clk {s:Int}(h:InR s):secAt (yOf s) ((mOf s:Int)+1) (rOf s - cum (lp (yOf s)) (mOf s)+1) ((s+631152000) / 60/ 60%24) ((s+631152000) / 60%60) ((s+631152000)%60)=s:=by
  have hm:=(m_spec h).2.2
  have e:mIx ((mOf s:Int)+1)=mOf s:=by unfold mIx;omega
  unfold secAt daysAt
  rw[e]
  unfold rOf
  have:dto (yOf s)+ (dayOf s - dto (yOf s) - cum (lp (yOf s)) (mOf s)+1) - 1+cum (lp (yOf s)) (mOf s)=dayOf s:=by omega
  rw[this]
  unfold dayOf;omega
theorem secOf_clk {s:Int}(h:InR s):secOf (clk s)=s:=by
  have e:100* (yOf s/ 100)+yOf s%100=yOf s:=by omega
  have:=secAt_clk h
  simpa[secOf,clk,e] using this
theorem sec_back {s:Int}(h:InR s):secOf (fldsOf (tagOf s) (bodyOf s))=s:=by rw[flds_back h,secOf_clk h]
theorem okT_back {s:Int}(h:InR s):OkT (tagOf s) (bodyOf s)∧timeS (tagOf s) (bodyOf s)=s:=by
  have:=sec_back h
  unfold OkT timeS
  rw[this]
  exact⟨⟨h,rfl,rfl⟩,rfl⟩
theorem bodyOf_len {s:Int}:(bodyOf s).length=if 2524608000≤s then 15 else 13:=by
  unfold bodyOf tagOf
  split<;>simp[wrs,clk,wr2]
end Go.Proofs.YtconbejjagcnkaaDoor.txm
