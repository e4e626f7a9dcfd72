/- The document's own days, months and digits. The document's o -/
import Derived.Test.YtkjkhoglkpepiaaGreatDoorXb
import Derived.BigQuiet
import Derived.Deep.QuietTactic
set_option maxRecDepth 100000
set_option maxHeartbeats 8000000
set_option linter.unusedVariables false
set_option linter.unusedSimpArgs false
namespace Go.Proofs.YtkjkhoglkpepiaaGreatDoor.txc
open Go.RowKit txm tlvc
theorem leaps_any (y:Int)(w:World)(h:0≤y)(h2:y≤1000000):
 Calls Tryz.prog 198 #[.int .i64 y] w fun e w'=>e=.returned (.int .i64 (lpG (y+1)))∧w=w':=by
 have e:lpG (y+1)=y/ 4 - y/ 100+y/ 400:=by rw[lpG_pos (by omega)];unfold lp4;rw[Int.add_sub_cancel]
 rw[e]
 clear e
 go_enter Tryz.func198,Tryz.ntmps198
 go_wp2
 go_ret
 exact⟨rfl,rfl⟩
theorem days_any (y:Int)(w:World)(h:1≤y)(h2:y≤1000000):
 Calls Tryz.prog 158 #[.int .i64 y] w fun e w'=>e=.returned (.int .i64 (dto y - 7305))∧w=w':=by
 obtain⟨L,hL⟩:=nm_ (lpG (y - 1+1))
 have hb:=lpG_bd (y:=y - 1+1) (by omega) (by omega)
 rw[hL] at hb
 have hd:dto y - 7305=365* (y - 1970)+L - 477:=by unfold dto;rw[show y=y - 1+1 by omega,hL];omega
 rw[hd]
 have hL':=hd_ hL
 have e69:lpG (1969+1)=477:=by decide
 have H69:=hd_ e69
 clear hL hd e69
 obtain⟨hb1,hb2⟩:=hb
 go_enter Tryz.func158,Tryz.ntmps158
 go_wp2_with fail
 refine(leaps_any _ _ (by omega) (by omega)).mono ?_
 rw[hL'.out]
 rintro e w' ⟨rfl,rfl⟩
 go_wp2_with fail
 refine(leaps_any _ _ (by omega) (by omega)).mono ?_
 rw[H69.out]
 rintro e w' ⟨rfl,rfl⟩
 go_wp2
 go_ret
 exact⟨ret_i64 rfl,rfl⟩
def leapB (y:Int):Bool:=decide (lp y=1)
theorem leap_any' (y:Int)(w:World)(h:1≤y)(h2:y≤1000000):
 Calls Tryz.prog 199 #[.int .i64 y] w fun e w'=>e=.returned (.bool (leapB y))∧w=w':=by
 by_cases h4:y%4=0
 ·by_cases h100:y%100=0
  ·by_cases h400:y%400=0
   ·have e:leapB y=true:=decide_eq_true (lp_d h h4 h100 h400)
    rw[e]
    have t4:(y%4==0)=true:=by simp[h4]
    have t100:(y%100 !=0)=false:=by simp[h100]
    have t400:(y%400==0)=true:=by simp[h400]
    clear h4 h100 h400 e
    go_enter Tryz.func199,Tryz.ntmps199
    go_wp2
    go_ret
    exact⟨rfl,rfl⟩
   ·have e:leapB y=false:=decide_eq_false (by rw[lp_c h h4 h100 h400];decide)
    rw[e]
    have t4:(y%4==0)=true:=by simp[h4]
    have t100:(y%100 !=0)=false:=by simp[h100]
    have t400:(y%400==0)=false:=by simp[h400]
    clear h4 h100 h400 e
    go_enter Tryz.func199,Tryz.ntmps199
    go_wp2
    go_ret
    exact⟨rfl,rfl⟩
  ·have e:leapB y=true:=decide_eq_true (lp_b h h4 h100)
   rw[e]
   have t4:(y%4==0)=true:=by simp[h4]
   have t100:(y%100 !=0)=true:=by simp[h100]
   clear h4 h100 e
   go_enter Tryz.func199,Tryz.ntmps199
   go_wp2
   go_ret
   exact⟨rfl,rfl⟩
 ·have e:leapB y=false:=decide_eq_false (by rw[lp_a h h4];decide)
  rw[e]
  have t4:(y%4==0)=false:=by simp[h4]
  clear h4 e
  go_enter Tryz.func199,Tryz.ntmps199
  go_wp2
  go_ret
  exact⟨rfl,rfl⟩
theorem two_any (n:Int)(w:World)(h:0≤n)(h2:n≤99):
 Calls Tryz.prog 160 #[.int .i64 n] w fun e w'=>e=.returned (.slice (some ⟨w.heap.size,0,none⟩) 2 2)∧w'=w.alloc (.cells #[.int .u8 (48+n/ 10),.int .u8 (48+n%10)] 5):=by
 go_enter Tryz.func160,Tryz.ntmps160
 go_wp2
 go_ret
 exact⟨rfl,rfl⟩
end Go.Proofs.YtkjkhoglkpepiaaGreatDoor.txc
namespace Go.Proofs.YtkjkhoglkpepiaaGreatDoor.txc
open Go.RowKit txm tlvc
def monsR:Array Value:=#[.int .i64 31,.int .i64 28,.int .i64 31,.int .i64 30,.int .i64 31,.int .i64 30,.int .i64 31,.int .i64 31,.int .i64 30,.int .i64 31,.int .i64 30,.int .i64 31]
theorem monsR_at {k:Nat}(h:k<12):monsR[k]? =some (.int .i64 (mon 0 k)):=by
 rcases twelve h with rfl |rfl |rfl |rfl |rfl |rfl |rfl |rfl |rfl |rfl |rfl |rfl<;>rfl
theorem mon_other {l:Int}{k:Nat}(h:k≠1):mon l k=mon 0 k:=by
 unfold mon;split<;>first |rfl |exact absurd rfl h
theorem month_any (y:Int)(k:Nat)(w:World)(h:1≤y)(h2:y≤1000000)(hk:k<12):
 Calls Tryz.prog 159 #[.int .i64 y,.int .i64 ((k:Int)+1)] w fun e w'=>e=.returned (.int .i64 (mon (lp y) k))∧Below w.heap.size w w':=by
 have hcell:(w.alloc (.cells #[.int .i64 31,.int .i64 28,.int .i64 31,.int .i64 30,.int .i64 31,.int .i64 30,.int .i64 31,.int .i64 31,.int .i64 30,.int .i64 31,.int .i64 30,.int .i64 31] 3)).cell? ⟨w.heap.size,k,none⟩=some (.int .i64 (mon 0 k)):=by
  rw[World.cell?_alloc_mark];exact monsR_at hk
 have hb:Below w.heap.size w (w.alloc (.cells #[.int .i64 31,.int .i64 28,.int .i64 31,.int .i64 30,.int .i64 31,.int .i64 30,.int .i64 31,.int .i64 31,.int .i64 30,.int .i64 31,.int .i64 30,.int .i64 31] 3)):=(br_ _ _).alloc (lr_ _) _
 by_cases h1:k=1
 ·subst h1
  have hl:=lp_01 (y:=y) (by omega)
  by_cases hp:lp y=1
  ·have hlb:leapB y=true:=decide_eq_true hp
   have e:mon (lp y) 1=29:=by rw[hp];rfl
   rw[e]
   have HB:=hd_ hlb
   clear hlb hp e hl
   go_enter Tryz.func159,Tryz.ntmps159
   go_wp2_with fail
   refine(leap_any' _ _ h h2).mono ?_
   rw[HB.out]
   rintro e w' ⟨rfl,rfl⟩
   go_wp2
   go_ret
   exact⟨rfl,hb⟩
  ·have hlb:leapB y=false:=decide_eq_false hp
   have hl0:lp y=0:=by omega
   rw[hl0]
   have HB:=hd_ hlb
   clear hlb hp hl hl0
   go_enter Tryz.func159,Tryz.ntmps159
   go_wp2_with fail
   refine(leap_any' _ _ h h2).mono ?_
   rw[HB.out]
   rintro e w' ⟨rfl,rfl⟩
   go_wp2
   go_ret
   exact⟨rfl,hb⟩
 ·rw[mon_other h1]
  have ht:((k:Int)+1==2)=false:=by simp;omega
  have hk0:(0:Int)≤k:=by omega
  have hk1:(k:Int)<12:=by omega
  obtain⟨M,hM⟩:=nm_ (mon 0 k)
  rw[hM] at hcell⊢
  clear h1 hM
  go_enter Tryz.func159,Tryz.ntmps159
  go_wp2
  go_ret
  exact⟨rfl,hb⟩
end Go.Proofs.YtkjkhoglkpepiaaGreatDoor.txc
namespace Go.Proofs.YtkjkhoglkpepiaaGreatDoor.txc
open Go.RowKit txm tlvc
theorem own_two (w:World)(a b:Int){base:Nat}(h:base≤w.heap.size):(w.alloc (.cells #[.int .u8 a,.int .u8 b] 5)).ownsRow base 5 1 (.slice (some ⟨w.heap.size,0,none⟩) 2 2) 2 (vals [a,b]):=
 World.ownsRow_lit w #[.int .u8 a,.int .u8 b] 2 h (by decide) rfl
theorem two_at (n m:Int)(w:World)(e:Hid (n=m))(h:0≤m)(h2:m≤99):
 Calls Tryz.prog 160 #[.int .i64 n] w fun e w'=>e=.returned (.slice (some ⟨w.heap.size,0,none⟩) 2 2)∧w'=w.alloc (.cells #[.int .u8 (48+m/ 10),.int .u8 (48+m%10)] 5):=by
 rw[e.out];exact two_any m w h h2
theorem put_own {w w':World}{t:Int}{v:Value}{n:Nat}{ys zs:List Int}(hz:zs=ys)(h:w'.ownsRow w.heap.size 5 1 v n (vals zs))(hf:Fit ys)(hb:Below w.heap.size w w'):Put w t ys 0 (.returned (.tuple #[.int .u8 t,v,.int .i64 0])) w':=by
 subst hz
 obtain⟨A,c,e,hh,hb⟩:=made_own h hf hb
 cases e
 exact⟨A,c,rfl,hh,hb⟩
theorem day_eqs {sec S r:Int}(hS:sec+631152000=S)(hr:S%86400=r)(h0:0≤S):(sec.tmod 86400+86400)%86400=r∧(sec - r).tdiv 86400=S/ 86400 - 7305∧ -86400<sec.tmod 86400∧sec.tmod 86400<86400:=by
 have h1:=Int.mul_tdiv_add_tmod sec 86400
 have h2:sec.tmod 86400<86400:=by have:=Int.tmod_lt_of_pos sec (show(0:Int)<86400 by decide);omega
 have h3: -86400<sec.tmod 86400:=by have:=Int.lt_tmod_of_pos sec (show(0:Int)<86400 by decide);omega
 refine⟨by omega,?_,h3,h2⟩
 have e:sec - r=(S/ 86400 - 7305)*86400:=by omega
 rw[e]
 exact Int.mul_tdiv_cancel _ (by decide)
theorem clock_eqs {S r:Int}(hr:S%86400=r)(h0:0≤S):r/ 3600=S/ 60/ 60%24∧r/ 60%60=S/ 60%60∧r%60=S%60:=by omega
theorem refPutTime_in (sec:Int)(w:World)(h:InR sec):
 Calls Tryz.prog 78 #[.int .i64 sec] w (Put w (tagOf sec) (bodyOf sec) 0):=by
 obtain⟨i0,hi,hz0,hz1,hz2⟩:=info_parts Tryz.info5
 have hfit:=body_fit h
 have hty:=tag_year h
 obtain⟨S,hS⟩:=nm_ (sec+631152000)
 have hb:=dayOf_bd h
 have hday:dayOf sec=S/ 86400:=by unfold dayOf;rw[hS]
 rw[hday] at hb
 obtain⟨hb0,hb1⟩:=hb
 have hS0:0≤S:=by unfold InR at h;omega
 have hS1:S≤254033452799:=by unfold InR at h;omega
 have hsec:sec=S - 631152000:=by omega
 obtain⟨Y,hY⟩:=nm_ (yOf sec)
 obtain⟨R,hR⟩:=nm_ (rOf sec)
 obtain⟨M,hM⟩:=nm_ (mOf sec)
 have hl:=lp_y h
 have hr:=r_bd h
 have huniq: ∀y,1≤y→dto y≤S/ 86400→S/ 86400<dto (y+1)→y=Y:=fun y h1 h2 h3=>by rw[←hY];unfold yOf;rw[hday];exact yearOf_uniq hb0 hb1 h1 h2 h3
 have hRd:R=S/ 86400 - dto Y:=by rw[←hR,←hY];unfold rOf;rw[hday]
 rw[hY] at hl hr hty
 rw[hR] at hr
 have hmu: ∀i:Nat,i<12→cum (lp Y) i≤R→R<cum (lp Y) (i+1)→i=M:=fun i h1 h2 h3=>by
  rw[←hM];unfold mOf;rw[hY,hR];exact monOf_uniq hl.1 hl.2 hr.1 hr.2 h1 h2 h3
 have hyb:=y_spec h
 rw[hY] at hyb
 obtain⟨_,_,hy0,hy1⟩:=hyb
 obtain⟨r,hr0⟩:=nm_ (S%86400)
 obtain⟨q1,q2,q3,q4⟩:=day_eqs hS hr0 hS0
 obtain⟨e1,e2,e3⟩:=clock_eqs hr0 hS0
 have hrb0:0≤r:=by omega
 have hrb1:r<86400:=by omega
 have hbody:bodyOf sec=wrs (tagOf sec) [Y/ 100,Y%100,(M:Int)+1,R - cum (lp Y) M+1,r/ 3600,r/ 60%60,r%60]:=by
  unfold bodyOf;simp only[clk,hY,hR,hM,hS,e1,e2,e3]
 have hdb:=d_bd h
 have hmb:=(m_spec h).2.2
 rw[hY,hR,hM] at hdb
 rw[hM] at hmb
 obtain⟨hdb0,_,hdb1⟩:=hdb
 have hdy:=dto_bd (y:=Y) (by omega) (by omega)
 obtain⟨hdy0,hdy1⟩:=hdy
 obtain⟨L,hL⟩:=nm_ (lp Y)
 rw[hL] at hmu hl hr hbody hdb0 hdb1
 obtain⟨hl0,hl1⟩:=hl
 obtain⟨hr1,hr2⟩:=hr
 have hfin: ∀(t:Int) (xs:List Int),tagOf sec=t→bodyOf sec=xs→∀(v:Value) (w':World),w'.ownsRow w.heap.size 5 1 v xs.length (vals xs)→Below w.heap.size w w'→Put w (tagOf sec) (bodyOf sec) 0 (.returned (.tuple #[.int .u8 t,v,.int .i64 0])) w':=
  fun t xs ht hx v w' h1 h2=>by rw[ht];exact put_own hx.symm h1 hfit h2
 obtain⟨T,hT⟩:=nm_ (sec.tmod 86400)
 rw[hT] at q1 q3 q4
 obtain⟨D,hD⟩:=nm_ (S/ 86400)
 rw[hD] at hb0 hb1 huniq hRd q2
 have HU:=hd_ huniq
 have HM:=hd_ hmu
 have HR:=hd_ hRd
 have HL:=hd_ hL
 have HT:=hd_ hty
 have HF0:=hd_ hfin
 have HB:=hd_ hbody
 have hsb0: -631152000≤sec:=by unfold InR at h;omega
 have hsb1:sec≤253402300799:=by unfold InR at h;omega
 have hsD:sec - r=(D - 7305)*86400:=by omega
 have HSD:=hd_ hsD
 have hsr0: -631152000≤sec - r:=by omega
 have hsr1:sec - r≤253402300799:=by omega
 have g0:dto 1950≤D:=by rw[dto_1950];exact hb0
 clear huniq hmu hRd hL hfit hfin hbody hty hY hR hM hday hS hsec hr0 hD e1 e2 e3 hsD
 go_enter Tryz.func78,Tryz.ntmps78
 go_wp2_with fail
 rw[q1]
 clear q1 hT q2 q3 q4
 go_loop [7] (fun t=>∃y:Int,1950≤y∧y≤9999∧dto y≤D∧t=.int .i64 y) (fun t=>(9999 - intOf t).toNat)
 case atStart=>exact⟨_,by omega,by omega,g0,rfl⟩
 case round=>
  obtain⟨y,hy1,hy2,hy3,rfl⟩:=hrel
  clear g0
  have hdb:=dto_bd (y:=y+1) (by omega) (by omega)
  obtain⟨hdb2,hdb3⟩:=hdb
  by_cases hc:dto (y+1)≤D
  ·have hlt:y<9999:=by
    rcases Int.lt_or_le y 9999 with h |h
    ·exact h
    ·have:y=9999:=by omega
     subst this
     have:=dto_10000
     have e:(9999:Int)+1=10000:=by decide
     rw[e] at hc
     omega
   have hc':dto (y+1) - 7305≤D - 7305:=by omega
   have HC:=hd_ hc
   clear hc
   go_wp2_with fail
   refine(days_any _ _ (by omega) (by omega)).mono ?_
   rintro e w' ⟨rfl,rfl⟩
   go_wp2_with fail
   go_round
   case rel=>exact⟨y+1,by omega,by omega,HC.out,rfl⟩
   case measure=>simp[intOf];omega
  ·obtain rfl:Y=y:=(HU.out y (by omega) hy3 (by omega)).symm
   have hc': ¬(dto (Y+1) - 7305≤D - 7305):=by omega
   clear hc
   go_wp2_with fail
   refine(days_any _ _ (by omega) (by omega)).mono ?_
   rintro e w' ⟨rfl,rfl⟩
   go_wp2_with fail
   refine(days_any _ _ (by omega) (by omega)).mono ?_
   rintro e w' ⟨rfl,rfl⟩
   have hRr0:0≤R:=hr1
   go_wp2_with fail
   go_outline
   go_loopw [6,8] (fun t6 t8 wr=>∃k:Nat,k<12∧0≤R - cum L k∧t6=.int .i64 (R - cum L k)∧t8=.int .i64 ((k:Int)+1)∧Below w.heap.size w wr) (fun _ t8 _=>13 - (intOf t8).toNat)
   case atStart=>exact⟨0,by omega,by simp[cum];omega,by have:=HR.out;simp[cum];omega,rfl,br_ _ _⟩
   case round=>
    obtain⟨k,hk,hk0,rfl,rfl,hbw⟩:=hrel
    have hcs:=cum_step L hk
    have hcb:=cum_bd hl0 hl1 k
    have hmbd:=mon_bd hl0 hl1 k
    obtain⟨hcb0,hcb1⟩:=hcb
    obtain⟨hmbd0,hmbd1⟩:=hmbd
    by_cases hm:R - cum L k<mon L k
    ·obtain rfl:k=M:=HM.out k hk (by omega) (by omega)
     clear hcs
     go_wp2_with fail
     refine(month_any _ k _ (by omega) (by omega) hk).mono ?_
     rw[HL.out]
     rintro e w1 ⟨rfl,hbm⟩
     have hbw1:=hbw.trans (hbm.mono hbw.size)
     clear hbw hbm
     go_wp2_with fail
     have e31: ∀x:Int,31=x→True:=fun _ _=>trivial
     have hn1:0≤(k:Int)+1:=by omega
     have hn2:(k:Int)+1≤99:=by omega
     have hn3:0≤R - cum L k+1:=by omega
     have hn4:R - cum L k+1≤99:=by omega
     have hn5:0≤r/ 3600:=by omega
     have hn6:r/ 3600≤99:=by omega
     have hn7:0≤r/ 60%60:=by omega
     have hn8:r/ 60%60≤99:=by omega
     have hn9:0≤r%60:=by omega
     have hn10:r%60≤99:=by omega
     have hny1:0≤Y/ 100:=by omega
     have hny2:Y/ 100≤99:=by omega
     have hny3:0≤Y%100:=by omega
     have hny4:Y%100≤99:=by omega
     obtain⟨fh,hfh⟩:=nm_ (r/ 3600)
     obtain⟨fn,hfn⟩:=nm_ (r/ 60%60)
     obtain⟨fs,hfs⟩:=nm_ (r%60)
     obtain⟨fy,hfy⟩:=nm_ (Y/ 100)
     obtain⟨fq,hfq⟩:=nm_ (Y%100)
     obtain⟨fm,hfm⟩:=nm_ ((k:Int)+1)
     obtain⟨fd,hfd⟩:=nm_ (R - cum L k+1)
     rw[hfh] at hn5 hn6 HB
     rw[hfn] at hn7 hn8 HB
     rw[hfs] at hn9 hn10 HB
     rw[hfy] at hny1 hny2 HB
     rw[hfq] at hny3 hny4 HB
     rw[hfm] at hn1 hn2 HB
     rw[hfd] at hn3 hn4 HB
     have HFH:=hd_ hfh
     have HFN:=hd_ hfn
     have HFS:=hd_ hfs
     have HFY:=hd_ hfy
     have HFQ:=hd_ hfq
     have HFM:=hd_ hfm
     have HFD:=hd_ hfd
     clear hfh hfn hfs hfy hfq hfm hfd
     have hbs1:=hbw1.size
     go_wp2_with fail
     refine(two_at _ fy _ HFY (by omega) (by omega)).mono ?_
     rintro e wz ⟨rfl,rfl⟩
     have hown:=own_two w1 (48+fy/ 10) (48+fy%10) (base:=w.heap.size) hbs1
     have hbw:=hbw1.alloc hbs1 (.cells #[.int .u8 (48+fy/ 10),.int .u8 (48+fy%10)] 5)
     obtain⟨wa,hwa⟩:=nm_ (w1.alloc (.cells #[.int .u8 (48+fy/ 10),.int .u8 (48+fy%10)] 5))
     obtain⟨va,hva⟩:=nm_ (Value.slice (some ⟨w1.heap.size,0,none⟩) 2 2)
     rw[hwa,hva] at hown
     rw[hwa] at hbw
     rw[hwa,hva]
     clear hwa hva hbw1 hbs1
     have hbs:=hbw.size
     go_wp2_with fail
     refine(two_at _ fq _ HFQ (by omega) (by omega)).mono ?_
     rintro e wz ⟨rfl,rfl⟩
     by_cases hy20:Y<2050
     ·have HF:=hd_ (HF0.out 23 (wrs 23 [fy,fq,fm,fd,fh,fn,fs]) (if_neg (fun h=>by have:=HT.out.1 h;omega)) (by rw[HB.out,show tagOf sec=23 from if_neg (fun h=>by have:=HT.out.1 h;omega)]))
      clear e31
      have hbn:Bys (wa.alloc (.cells #[.int .u8 (48+fq/ 10),.int .u8 (48+fq%10)] 5)) (some ⟨wa.heap.size,0,none⟩) 2 [48+fq/ 10,48+fq%10]:=bys_new2 wa _ (by omega) (by omega)
      go_wp2_with (at_builtin;refine wpl_app rfl (.tmp 50) (.tmp 53) 34 rfl w.heap.size 5 i0 (.int .u8 0) Tryz.underlying34 hi hz0 hz1 hz2 rfl va 2 (vals [48+fy/ 10,48+fy%10]) rfl (hown.alloc _) (some ⟨wa.heap.size,0,none⟩) 2 2 [48+fq/ 10,48+fq%10] rfl hbn (by first |omega | (simp only[List.length_append,List.length_cons,List.length_nil];omega)) (by simp;omega) ?_;intro v10 w10 ho hg)
      obtain⟨hown',hbw'⟩:=own_next (xs:=[48+fy/ 10,48+fy%10]) hbw hown (zs:=[48+fy/ 10,48+fy%10]++[48+fq/ 10,48+fq%10]) rfl rfl ho hg
      have hbs10:=hbw'.size
      clear ho hg hown hbw hbs hbn
      have hown:=hown'
      have hbw:=hbw'
      clear hown' hbw'
      clear hown
      go_wp2_with fail
      refine(two_at _ fq _ HFQ (by omega) (by omega)).mono ?_
      rintro e wz ⟨rfl,rfl⟩
      have hown:=own_two w10 (48+fq/ 10) (48+fq%10) (base:=w.heap.size) hbs10
      have hbw':=hbw.alloc hbs10 (.cells #[.int .u8 (48+fq/ 10),.int .u8 (48+fq%10)] 5)
      obtain⟨wb,hwb⟩:=nm_ (w10.alloc (.cells #[.int .u8 (48+fq/ 10),.int .u8 (48+fq%10)] 5))
      obtain⟨vb,hvb⟩:=nm_ (Value.slice (some ⟨w10.heap.size,0,none⟩) 2 2)
      rw[hwb,hvb] at hown
      rw[hwb] at hbw'
      rw[hwb,hvb]
      clear hwb hvb hbw hbs10
      have hbw:=hbw'
      clear hbw'
      have hbs:=hbw.size
      go_wp2_with fail
      refine(two_at _ fm _ HFM (by omega) (by omega)).mono ?_
      rintro e wz ⟨rfl,rfl⟩
      have hbn:Bys (wb.alloc (.cells #[.int .u8 (48+fm/ 10),.int .u8 (48+fm%10)] 5)) (some ⟨wb.heap.size,0,none⟩) 2 [48+fm/ 10,48+fm%10]:=bys_new2 wb _ (by omega) (by omega)
      go_wp2_with (at_builtin;refine wpl_app rfl (.tmp 60) (.tmp 62) 34 rfl w.heap.size 5 i0 (.int .u8 0) Tryz.underlying34 hi hz0 hz1 hz2 rfl vb [48+fq/ 10,48+fq%10].length (vals [48+fq/ 10,48+fq%10]) rfl (hown.alloc _) (some ⟨wb.heap.size,0,none⟩) 2 2 [48+fm/ 10,48+fm%10] rfl hbn (by first |omega | (simp only[List.length_append,List.length_cons,List.length_nil];omega)) (by simp;omega) ?_;intro v20 w20 ho hg)
      obtain⟨hown',hbw'⟩:=own_next hbw hown (zs:=([48+fq/ 10,48+fq%10]++[48+fm/ 10,48+fm%10])) rfl rfl ho hg
      have hbs20:=hbw'.size
      clear ho hg hown hbw hbn
      have hown:=hown'
      have hbw:=hbw'
      clear hown' hbw'
      go_wp2_with fail
      refine(two_at _ fd _ HFD (by omega) (by omega)).mono ?_
      rintro e wz ⟨rfl,rfl⟩
      have hbn:Bys (w20.alloc (.cells #[.int .u8 (48+fd/ 10),.int .u8 (48+fd%10)] 5)) (some ⟨w20.heap.size,0,none⟩) 2 [48+fd/ 10,48+fd%10]:=bys_new2 w20 _ (by omega) (by omega)
      go_wp2_with (at_builtin;refine wpl_app rfl (.tmp 64) (.tmp 67) 34 rfl w.heap.size 5 i0 (.int .u8 0) Tryz.underlying34 hi hz0 hz1 hz2 rfl v20 ([48+fq/ 10,48+fq%10]++[48+fm/ 10,48+fm%10]).length (vals ([48+fq/ 10,48+fq%10]++[48+fm/ 10,48+fm%10])) rfl (hown.alloc _) (some ⟨w20.heap.size,0,none⟩) 2 2 [48+fd/ 10,48+fd%10] rfl hbn (by first |omega | (simp only[List.length_append,List.length_cons,List.length_nil];omega)) (by simp;omega) ?_;intro v21 w21 ho hg)
      obtain⟨hown',hbw'⟩:=own_next hbw hown (zs:=(([48+fq/ 10,48+fq%10]++[48+fm/ 10,48+fm%10])++[48+fd/ 10,48+fd%10])) rfl rfl ho hg
      have hbs21:=hbw'.size
      clear ho hg hown hbw hbn
      have hown:=hown'
      have hbw:=hbw'
      clear hown' hbw'
      go_wp2_with fail
      refine(two_at _ fh _ HFH (by omega) (by omega)).mono ?_
      rintro e wz ⟨rfl,rfl⟩
      have hbn:Bys (w21.alloc (.cells #[.int .u8 (48+fh/ 10),.int .u8 (48+fh%10)] 5)) (some ⟨w21.heap.size,0,none⟩) 2 [48+fh/ 10,48+fh%10]:=bys_new2 w21 _ (by omega) (by omega)
      go_wp2_with (at_builtin;refine wpl_app rfl (.tmp 69) (.tmp 72) 34 rfl w.heap.size 5 i0 (.int .u8 0) Tryz.underlying34 hi hz0 hz1 hz2 rfl v21 (([48+fq/ 10,48+fq%10]++[48+fm/ 10,48+fm%10])++[48+fd/ 10,48+fd%10]).length (vals (([48+fq/ 10,48+fq%10]++[48+fm/ 10,48+fm%10])++[48+fd/ 10,48+fd%10])) rfl (hown.alloc _) (some ⟨w21.heap.size,0,none⟩) 2 2 [48+fh/ 10,48+fh%10] rfl hbn (by first |omega | (simp only[List.length_append,List.length_cons,List.length_nil];omega)) (by simp;omega) ?_;intro v22 w22 ho hg)
      obtain⟨hown',hbw'⟩:=own_next hbw hown (zs:=((([48+fq/ 10,48+fq%10]++[48+fm/ 10,48+fm%10])++[48+fd/ 10,48+fd%10])++[48+fh/ 10,48+fh%10])) rfl rfl ho hg
      have hbs22:=hbw'.size
      clear ho hg hown hbw hbn
      have hown:=hown'
      have hbw:=hbw'
      clear hown' hbw'
      go_wp2_with fail
      refine(two_at _ fn _ HFN (by omega) (by omega)).mono ?_
      rintro e wz ⟨rfl,rfl⟩
      have hbn:Bys (w22.alloc (.cells #[.int .u8 (48+fn/ 10),.int .u8 (48+fn%10)] 5)) (some ⟨w22.heap.size,0,none⟩) 2 [48+fn/ 10,48+fn%10]:=bys_new2 w22 _ (by omega) (by omega)
      go_wp2_with (at_builtin;refine wpl_app rfl (.tmp 74) (.tmp 78) 34 rfl w.heap.size 5 i0 (.int .u8 0) Tryz.underlying34 hi hz0 hz1 hz2 rfl v22 ((([48+fq/ 10,48+fq%10]++[48+fm/ 10,48+fm%10])++[48+fd/ 10,48+fd%10])++[48+fh/ 10,48+fh%10]).length (vals ((([48+fq/ 10,48+fq%10]++[48+fm/ 10,48+fm%10])++[48+fd/ 10,48+fd%10])++[48+fh/ 10,48+fh%10])) rfl (hown.alloc _) (some ⟨w22.heap.size,0,none⟩) 2 2 [48+fn/ 10,48+fn%10] rfl hbn (by first |omega | (simp only[List.length_append,List.length_cons,List.length_nil];omega)) (by simp;omega) ?_;intro v23 w23 ho hg)
      obtain⟨hown',hbw'⟩:=own_next hbw hown (zs:=(((([48+fq/ 10,48+fq%10]++[48+fm/ 10,48+fm%10])++[48+fd/ 10,48+fd%10])++[48+fh/ 10,48+fh%10])++[48+fn/ 10,48+fn%10])) rfl rfl ho hg
      have hbs23:=hbw'.size
      clear ho hg hown hbw hbn
      have hown:=hown'
      have hbw:=hbw'
      clear hown' hbw'
      go_wp2_with fail
      refine(two_at _ fs _ HFS (by omega) (by omega)).mono ?_
      rintro e wz ⟨rfl,rfl⟩
      have hbn:Bys (w23.alloc (.cells #[.int .u8 (48+fs/ 10),.int .u8 (48+fs%10)] 5)) (some ⟨w23.heap.size,0,none⟩) 2 [48+fs/ 10,48+fs%10]:=bys_new2 w23 _ (by omega) (by omega)
      go_wp2_with (first | ((at_builtin;refine wpl_app rfl (.tmp 80) (.tmp 83) 34 rfl w.heap.size 5 i0 (.int .u8 0) Tryz.underlying34 hi hz0 hz1 hz2 rfl v23 (((([48+fq/ 10,48+fq%10]++[48+fm/ 10,48+fm%10])++[48+fd/ 10,48+fd%10])++[48+fh/ 10,48+fh%10])++[48+fn/ 10,48+fn%10]).length (vals (((([48+fq/ 10,48+fq%10]++[48+fm/ 10,48+fm%10])++[48+fd/ 10,48+fd%10])++[48+fh/ 10,48+fh%10])++[48+fn/ 10,48+fn%10])) rfl (hown.alloc _) (some ⟨w23.heap.size,0,none⟩) 2 2 [48+fs/ 10,48+fs%10] rfl hbn (by first |omega | (simp only[List.length_append,List.length_cons,List.length_nil];omega)) (by simp;omega) ?_;intro v24 w24 ho hg);obtain⟨hown',hbw'⟩:=own_next hbw hown (zs:=((((([48+fq/ 10,48+fq%10]++[48+fm/ 10,48+fm%10])++[48+fd/ 10,48+fd%10])++[48+fh/ 10,48+fh%10])++[48+fn/ 10,48+fn%10])++[48+fs/ 10,48+fs%10])) rfl rfl ho hg;have hbs24:=hbw'.size;clear ho hg hown hbw hbn;have hown:=hown';have hbw:=hbw';clear hown' hbw';have hbn:Bys (w24.alloc (.cells #[.int .u8 90] 5)) (some ⟨w24.heap.size,0,none⟩) 1 [90]:=bys_new1 w24 _ (by omega)) | (at_builtin;refine wpl_app rfl (.tmp 86) (.tmp 87) 34 rfl w.heap.size 5 i0 (.int .u8 0) Tryz.underlying34 hi hz0 hz1 hz2 rfl v24 ((((([48+fq/ 10,48+fq%10]++[48+fm/ 10,48+fm%10])++[48+fd/ 10,48+fd%10])++[48+fh/ 10,48+fh%10])++[48+fn/ 10,48+fn%10])++[48+fs/ 10,48+fs%10]).length (vals ((((([48+fq/ 10,48+fq%10]++[48+fm/ 10,48+fm%10])++[48+fd/ 10,48+fd%10])++[48+fh/ 10,48+fh%10])++[48+fn/ 10,48+fn%10])++[48+fs/ 10,48+fs%10])) rfl (hown.alloc _) (some ⟨w24.heap.size,0,none⟩) 1 1 [90] rfl hbn (by first |omega | (simp only[List.length_append,List.length_cons,List.length_nil];omega)) (by simp;omega) ?_;intro v30 w30 ho hg))
      obtain⟨hown',hbw'⟩:=own_next hbw hown (zs:=((((([48+fq/ 10,48+fq%10]++[48+fm/ 10,48+fm%10])++[48+fd/ 10,48+fd%10])++[48+fh/ 10,48+fh%10])++[48+fn/ 10,48+fn%10])++[48+fs/ 10,48+fs%10])++[90]) rfl rfl ho hg
      clear ho hg hown hbw hbn
      have hfin:=HF.out v30 w30 (by first |exact hown' |simpa[vals] using hown') hbw'
      clear hown' hbw'
      go_wp2
      go_ret3
      exact hfin
     ·have HF:=hd_ (HF0.out 24 (wrs 24 [fy,fq,fm,fd,fh,fn,fs]) (if_pos (HT.out.2 (by omega))) (by rw[HB.out,show tagOf sec=24 from if_pos (HT.out.2 (by omega))]))
      clear e31
      have hbn:Bys (wa.alloc (.cells #[.int .u8 (48+fq/ 10),.int .u8 (48+fq%10)] 5)) (some ⟨wa.heap.size,0,none⟩) 2 [48+fq/ 10,48+fq%10]:=bys_new2 wa _ (by omega) (by omega)
      go_wp2_with (at_builtin;refine wpl_app rfl (.tmp 50) (.tmp 53) 34 rfl w.heap.size 5 i0 (.int .u8 0) Tryz.underlying34 hi hz0 hz1 hz2 rfl va 2 (vals [48+fy/ 10,48+fy%10]) rfl (hown.alloc _) (some ⟨wa.heap.size,0,none⟩) 2 2 [48+fq/ 10,48+fq%10] rfl hbn (by first |omega | (simp only[List.length_append,List.length_cons,List.length_nil];omega)) (by simp;omega) ?_;intro v10 w10 ho hg)
      obtain⟨hown',hbw'⟩:=own_next (xs:=[48+fy/ 10,48+fy%10]) hbw hown (zs:=[48+fy/ 10,48+fy%10]++[48+fq/ 10,48+fq%10]) rfl rfl ho hg
      have hbs10:=hbw'.size
      clear ho hg hown hbw hbs hbn
      have hown:=hown'
      have hbw:=hbw'
      clear hown' hbw'
      go_wp2_with fail
      refine(two_at _ fm _ HFM (by omega) (by omega)).mono ?_
      rintro e wz ⟨rfl,rfl⟩
      have hbn:Bys (w10.alloc (.cells #[.int .u8 (48+fm/ 10),.int .u8 (48+fm%10)] 5)) (some ⟨w10.heap.size,0,none⟩) 2 [48+fm/ 10,48+fm%10]:=bys_new2 w10 _ (by omega) (by omega)
      go_wp2_with (at_builtin;refine wpl_app rfl (.tmp 60) (.tmp 62) 34 rfl w.heap.size 5 i0 (.int .u8 0) Tryz.underlying34 hi hz0 hz1 hz2 rfl v10 ([48+fy/ 10,48+fy%10]++[48+fq/ 10,48+fq%10]).length (vals ([48+fy/ 10,48+fy%10]++[48+fq/ 10,48+fq%10])) rfl (hown.alloc _) (some ⟨w10.heap.size,0,none⟩) 2 2 [48+fm/ 10,48+fm%10] rfl hbn (by first |omega | (simp only[List.length_append,List.length_cons,List.length_nil];omega)) (by simp;omega) ?_;intro v20 w20 ho hg)
      obtain⟨hown',hbw'⟩:=own_next hbw hown (zs:=(([48+fy/ 10,48+fy%10]++[48+fq/ 10,48+fq%10])++[48+fm/ 10,48+fm%10])) rfl rfl ho hg
      have hbs20:=hbw'.size
      clear ho hg hown hbw hbn
      have hown:=hown'
      have hbw:=hbw'
      clear hown' hbw'
      go_wp2_with fail
      refine(two_at _ fd _ HFD (by omega) (by omega)).mono ?_
      rintro e wz ⟨rfl,rfl⟩
      have hbn:Bys (w20.alloc (.cells #[.int .u8 (48+fd/ 10),.int .u8 (48+fd%10)] 5)) (some ⟨w20.heap.size,0,none⟩) 2 [48+fd/ 10,48+fd%10]:=bys_new2 w20 _ (by omega) (by omega)
      go_wp2_with (at_builtin;refine wpl_app rfl (.tmp 64) (.tmp 67) 34 rfl w.heap.size 5 i0 (.int .u8 0) Tryz.underlying34 hi hz0 hz1 hz2 rfl v20 (([48+fy/ 10,48+fy%10]++[48+fq/ 10,48+fq%10])++[48+fm/ 10,48+fm%10]).length (vals (([48+fy/ 10,48+fy%10]++[48+fq/ 10,48+fq%10])++[48+fm/ 10,48+fm%10])) rfl (hown.alloc _) (some ⟨w20.heap.size,0,none⟩) 2 2 [48+fd/ 10,48+fd%10] rfl hbn (by first |omega | (simp only[List.length_append,List.length_cons,List.length_nil];omega)) (by simp;omega) ?_;intro v21 w21 ho hg)
      obtain⟨hown',hbw'⟩:=own_next hbw hown (zs:=((([48+fy/ 10,48+fy%10]++[48+fq/ 10,48+fq%10])++[48+fm/ 10,48+fm%10])++[48+fd/ 10,48+fd%10])) rfl rfl ho hg
      have hbs21:=hbw'.size
      clear ho hg hown hbw hbn
      have hown:=hown'
      have hbw:=hbw'
      clear hown' hbw'
      go_wp2_with fail
      refine(two_at _ fh _ HFH (by omega) (by omega)).mono ?_
      rintro e wz ⟨rfl,rfl⟩
      have hbn:Bys (w21.alloc (.cells #[.int .u8 (48+fh/ 10),.int .u8 (48+fh%10)] 5)) (some ⟨w21.heap.size,0,none⟩) 2 [48+fh/ 10,48+fh%10]:=bys_new2 w21 _ (by omega) (by omega)
      go_wp2_with (at_builtin;refine wpl_app rfl (.tmp 69) (.tmp 72) 34 rfl w.heap.size 5 i0 (.int .u8 0) Tryz.underlying34 hi hz0 hz1 hz2 rfl v21 ((([48+fy/ 10,48+fy%10]++[48+fq/ 10,48+fq%10])++[48+fm/ 10,48+fm%10])++[48+fd/ 10,48+fd%10]).length (vals ((([48+fy/ 10,48+fy%10]++[48+fq/ 10,48+fq%10])++[48+fm/ 10,48+fm%10])++[48+fd/ 10,48+fd%10])) rfl (hown.alloc _) (some ⟨w21.heap.size,0,none⟩) 2 2 [48+fh/ 10,48+fh%10] rfl hbn (by first |omega | (simp only[List.length_append,List.length_cons,List.length_nil];omega)) (by simp;omega) ?_;intro v22 w22 ho hg)
      obtain⟨hown',hbw'⟩:=own_next hbw hown (zs:=(((([48+fy/ 10,48+fy%10]++[48+fq/ 10,48+fq%10])++[48+fm/ 10,48+fm%10])++[48+fd/ 10,48+fd%10])++[48+fh/ 10,48+fh%10])) rfl rfl ho hg
      have hbs22:=hbw'.size
      clear ho hg hown hbw hbn
      have hown:=hown'
      have hbw:=hbw'
      clear hown' hbw'
      go_wp2_with fail
      refine(two_at _ fn _ HFN (by omega) (by omega)).mono ?_
      rintro e wz ⟨rfl,rfl⟩
      have hbn:Bys (w22.alloc (.cells #[.int .u8 (48+fn/ 10),.int .u8 (48+fn%10)] 5)) (some ⟨w22.heap.size,0,none⟩) 2 [48+fn/ 10,48+fn%10]:=bys_new2 w22 _ (by omega) (by omega)
      go_wp2_with (at_builtin;refine wpl_app rfl (.tmp 74) (.tmp 78) 34 rfl w.heap.size 5 i0 (.int .u8 0) Tryz.underlying34 hi hz0 hz1 hz2 rfl v22 (((([48+fy/ 10,48+fy%10]++[48+fq/ 10,48+fq%10])++[48+fm/ 10,48+fm%10])++[48+fd/ 10,48+fd%10])++[48+fh/ 10,48+fh%10]).length (vals (((([48+fy/ 10,48+fy%10]++[48+fq/ 10,48+fq%10])++[48+fm/ 10,48+fm%10])++[48+fd/ 10,48+fd%10])++[48+fh/ 10,48+fh%10])) rfl (hown.alloc _) (some ⟨w22.heap.size,0,none⟩) 2 2 [48+fn/ 10,48+fn%10] rfl hbn (by first |omega | (simp only[List.length_append,List.length_cons,List.length_nil];omega)) (by simp;omega) ?_;intro v23 w23 ho hg)
      obtain⟨hown',hbw'⟩:=own_next hbw hown (zs:=((((([48+fy/ 10,48+fy%10]++[48+fq/ 10,48+fq%10])++[48+fm/ 10,48+fm%10])++[48+fd/ 10,48+fd%10])++[48+fh/ 10,48+fh%10])++[48+fn/ 10,48+fn%10])) rfl rfl ho hg
      have hbs23:=hbw'.size
      clear ho hg hown hbw hbn
      have hown:=hown'
      have hbw:=hbw'
      clear hown' hbw'
      go_wp2_with fail
      refine(two_at _ fs _ HFS (by omega) (by omega)).mono ?_
      rintro e wz ⟨rfl,rfl⟩
      have hbn:Bys (w23.alloc (.cells #[.int .u8 (48+fs/ 10),.int .u8 (48+fs%10)] 5)) (some ⟨w23.heap.size,0,none⟩) 2 [48+fs/ 10,48+fs%10]:=bys_new2 w23 _ (by omega) (by omega)
      go_wp2_with (first | ((at_builtin;refine wpl_app rfl (.tmp 80) (.tmp 83) 34 rfl w.heap.size 5 i0 (.int .u8 0) Tryz.underlying34 hi hz0 hz1 hz2 rfl v23 ((((([48+fy/ 10,48+fy%10]++[48+fq/ 10,48+fq%10])++[48+fm/ 10,48+fm%10])++[48+fd/ 10,48+fd%10])++[48+fh/ 10,48+fh%10])++[48+fn/ 10,48+fn%10]).length (vals ((((([48+fy/ 10,48+fy%10]++[48+fq/ 10,48+fq%10])++[48+fm/ 10,48+fm%10])++[48+fd/ 10,48+fd%10])++[48+fh/ 10,48+fh%10])++[48+fn/ 10,48+fn%10])) rfl (hown.alloc _) (some ⟨w23.heap.size,0,none⟩) 2 2 [48+fs/ 10,48+fs%10] rfl hbn (by first |omega | (simp only[List.length_append,List.length_cons,List.length_nil];omega)) (by simp;omega) ?_;intro v24 w24 ho hg);obtain⟨hown',hbw'⟩:=own_next hbw hown (zs:=(((((([48+fy/ 10,48+fy%10]++[48+fq/ 10,48+fq%10])++[48+fm/ 10,48+fm%10])++[48+fd/ 10,48+fd%10])++[48+fh/ 10,48+fh%10])++[48+fn/ 10,48+fn%10])++[48+fs/ 10,48+fs%10])) rfl rfl ho hg;have hbs24:=hbw'.size;clear ho hg hown hbw hbn;have hown:=hown';have hbw:=hbw';clear hown' hbw';have hbn:Bys (w24.alloc (.cells #[.int .u8 90] 5)) (some ⟨w24.heap.size,0,none⟩) 1 [90]:=bys_new1 w24 _ (by omega)) | (at_builtin;refine wpl_app rfl (.tmp 86) (.tmp 87) 34 rfl w.heap.size 5 i0 (.int .u8 0) Tryz.underlying34 hi hz0 hz1 hz2 rfl v24 (((((([48+fy/ 10,48+fy%10]++[48+fq/ 10,48+fq%10])++[48+fm/ 10,48+fm%10])++[48+fd/ 10,48+fd%10])++[48+fh/ 10,48+fh%10])++[48+fn/ 10,48+fn%10])++[48+fs/ 10,48+fs%10]).length (vals (((((([48+fy/ 10,48+fy%10]++[48+fq/ 10,48+fq%10])++[48+fm/ 10,48+fm%10])++[48+fd/ 10,48+fd%10])++[48+fh/ 10,48+fh%10])++[48+fn/ 10,48+fn%10])++[48+fs/ 10,48+fs%10])) rfl (hown.alloc _) (some ⟨w24.heap.size,0,none⟩) 1 1 [90] rfl hbn (by first |omega | (simp only[List.length_append,List.length_cons,List.length_nil];omega)) (by simp;omega) ?_;intro v30 w30 ho hg))
      obtain⟨hown',hbw'⟩:=own_next hbw hown (zs:=(((((([48+fy/ 10,48+fy%10]++[48+fq/ 10,48+fq%10])++[48+fm/ 10,48+fm%10])++[48+fd/ 10,48+fd%10])++[48+fh/ 10,48+fh%10])++[48+fn/ 10,48+fn%10])++[48+fs/ 10,48+fs%10])++[90]) rfl rfl ho hg
      clear ho hg hown hbw hbn
      have hfin:=HF.out v30 w30 (by first |exact hown' |simpa[vals] using hown') hbw'
      clear hown' hbw'
      go_wp2
      go_ret3
      exact hfin
    ·have hk2:k+1<12:=by
      rcases Nat.lt_or_ge (k+1) 12 with h |h
      ·exact h
      ·have e:k=11:=by omega
       subst e
       have:cum L (11+1)=365+L:=rfl
       omega
     have hcs':R - cum L k - mon L k=R - cum L (k+1):=by omega
     have hp:0≤R - cum L (k+1):=by omega
     have HC:=hd_ hcs'
     clear hcs hcs'
     go_wp2_with fail
     refine(month_any _ k _ (by omega) (by omega) hk).mono ?_
     rw[HL.out]
     rintro e w1 ⟨rfl,hbm⟩
     have hbw1:=hbw.trans (hbm.mono hbw.size)
     clear hbw hbm
     go_wp2_with fail
     refine(month_any _ k _ (by omega) (by omega) hk).mono ?_
     rw[HL.out]
     rintro e w2 ⟨rfl,hbm⟩
     have hbw2:=hbw1.trans (hbm.mono hbw1.size)
     clear hbw1 hbm
     go_wp2_with fail
     go_roundw
     case rel=>exact⟨k+1,hk2,hp,by rw[HC.out],by go_num,hbw2⟩
     case measure=>simp[intOf];omega
end Go.Proofs.YtkjkhoglkpepiaaGreatDoor.txc
namespace Go.Proofs.YtkjkhoglkpepiaaGreatDoor.txm
def dig2 (a b:Int):Int:=if (48≤a∧a≤57)∧(48≤b∧b≤57) then 10* (a - 48)+ (b - 48) else -1
theorem dig2_bd (a b:Int): -1≤dig2 a b∧dig2 a b≤99:=by unfold dig2;split<;>omega
end Go.Proofs.YtkjkhoglkpepiaaGreatDoor.txm
namespace Go.Proofs.YtkjkhoglkpepiaaGreatDoor.txc
open Go.RowKit txm tlvc
theorem refPutTime_out (sec:Int)(w:World)(h:sec< -631152000∨253402300799<sec):
 Calls Tryz.prog 78 #[.int .i64 sec] w (Put w 0 [] 32):=by
 have fin:Put w 0 [] 32 (.returned (.tuple #[.int .u8 0,.slice none 0 0,.int .i64 32])) w:=⟨none,0,rfl,⟨Bys.nil_ _ _,lr_ _,Nat.zero_le _,fun _ _ h=>by cases h⟩,br_ _ _⟩
 rcases h with h |h
 ·go_enter Tryz.func78,Tryz.ntmps78
  go_wp2
  go_ret3
  exact fin
 ·have h': ¬sec< -631152000:=by omega
  go_enter Tryz.func78,Tryz.ntmps78
  go_wp2
  go_ret3
  exact fin
theorem refPutTime_any (sec:Int)(w:World):Calls Tryz.prog 78 #[.int .i64 sec] w (Put w (putT sec) (putB sec) (putE sec)):=by
 unfold putT putB putE
 by_cases h:InR sec
 ·rw[if_pos h,if_pos h,if_pos h];exact refPutTime_in sec w h
 ·rw[if_neg h,if_neg h,if_neg h];exact refPutTime_out sec w (out_of h)
theorem number_any (A:Option Addr)(n c k:Nat)(xs:List Int)(w:World)(hx:Bys w A n xs)(hk:k+1<n)(hn:n≤1000):
 Calls Tryz.prog 194 #[.slice A n c,.int .i64 k] w fun e w'=>e=.returned (.int .i64 (dig2 (xs.getD k 0) (xs.getD (k+1) 0)))∧Below w.heap.size w w':=by
 obtain⟨b,off,rfl,hblt,hcells⟩:=hx.2.2 (by omega)
 have h0:=hcells k (by omega)
 have h1:=hcells (k+1) hk
 have f0:=hx.2.1.getD k
 have f1:=hx.2.1.getD (k+1)
 obtain⟨a,ha⟩:=nm_ (xs.getD k 0)
 obtain⟨d,hd⟩:=nm_ (xs.getD (k+1) 0)
 rw[ha] at h0 f0⊢
 rw[hd] at h1 f1⊢
 obtain⟨f0,f0'⟩:=f0
 obtain⟨f1,f1'⟩:=f1
 have hk0:(0:Int)≤(k:Int):=by omega
 have hkn:(k:Int)<n:=by omega
 have hkn':k<n:=by omega
 have hk1:(k:Int)+1<n:=by omega
 have hkt:((k:Int)+1).toNat=k+1:=by omega
 have hk10:(0:Int)≤(k:Int)+1:=by omega
 obtain⟨R,hR⟩:=nm_ (dig2 a d)
 rw[hR]
 have hno: ¬((48≤a∧a≤57)∧(48≤d∧d≤57))→R= -1:=fun h=>by rw[←hR];exact if_neg h
 have hyes:(48≤a∧a≤57)∧(48≤d∧d≤57)→R=10* (a - 48)+ (d - 48):=fun h=>by rw[←hR];exact if_pos h
 clear ha hd hcells hx hR hblt
 by_cases a1:a<48
 ·have hr:=hno (by omega)
  subst hr
  clear hno hyes
  go_enter Tryz.func194,Tryz.ntmps194
  go_wp2
  go_ret
  exact⟨rfl,br_ _ _⟩
 ·by_cases a2:57<a
  ·have hr:=hno (by omega)
   subst hr
   clear hno hyes
   go_enter Tryz.func194,Tryz.ntmps194
   go_wp2
   go_ret
   exact⟨rfl,br_ _ _⟩
  ·by_cases d1:d<48
   ·have hr:=hno (by omega)
    subst hr
    clear hno hyes
    go_enter Tryz.func194,Tryz.ntmps194
    go_wp2
    go_ret
    exact⟨rfl,br_ _ _⟩
   ·by_cases d2:57<d
    ·have hr:=hno (by omega)
     subst hr
     clear hno hyes
     go_enter Tryz.func194,Tryz.ntmps194
     go_wp2
     go_ret
     exact⟨rfl,br_ _ _⟩
    ·have hr:=hyes (by omega)
     subst hr
     have hw0:IntKind.u8.wrap (a - 48)=a - 48:=by show(a - 48)%256=a - 48;omega
     have hw1:IntKind.u8.wrap (d - 48)=d - 48:=by show(d - 48)%256=d - 48;omega
     have hw2:IntKind.i64.wrap (a - 48)=a - 48:=IntWalk.i64_in _ (by omega)
     have hw3:IntKind.i64.wrap (d - 48)=d - 48:=IntWalk.i64_in _ (by omega)
     have hw4:IntKind.i64.wrap (10* (a - 48))=10* (a - 48):=IntWalk.i64_in _ (by omega)
     have hw5:IntKind.i64.wrap (10* (a - 48)+ (d - 48))=10* (a - 48)+ (d - 48):=IntWalk.i64_in _ (by omega)
     have hw6:IntKind.i64.wrap ((k:Int)+1)=k+1:=IntWalk.i64_in _ (by omega)
     clear hno hyes
     go_enter Tryz.func194,Tryz.ntmps194
     go_wp2_with fail
     go_quiet (fail)
     go_wp2
     go_ret
     exact⟨rfl,below_drewN _⟩
end Go.Proofs.YtkjkhoglkpepiaaGreatDoor.txc
namespace Go.Proofs.YtkjkhoglkpepiaaGreatDoor.txm
open txc
def TailOk (Y m d h n s z:Int):Prop:=z=90∧(1≤m∧m≤12)∧1≤d∧(0≤h∧h≤23)∧(0≤n∧n≤59)∧(0≤s∧s≤59)∧d≤mon (lp Y) (m - 1).toNat
theorem clk_secAt {Y m d h n s:Int}(hY:1950≤Y)(hY2:Y≤9999)(hm:1≤m∧m≤12)(hd:1≤d)(hh:0≤h∧h≤23)(hn:0≤n∧n≤59)(hs:0≤s∧s≤59)(hdm:d≤mon (lp Y) (m - 1).toNat):
 InR (secAt Y m d h n s)∧yOf (secAt Y m d h n s)=Y∧clk (secAt Y m d h n s)=[Y/ 100,Y%100,m,d,h,n,s]:=by
 obtain⟨k,hk⟩: ∃k:Nat,(m - 1).toNat=k:=⟨_,rfl⟩
 have hk12:k<12:=by omega
 have hix:mIx m=k:=by unfold mIx;omega
 rw[hk] at hdm
 obtain⟨l0,l1⟩:=lp_01 (y:=Y) (by omega)
 have hcs:=cum_step (lp Y) hk12
 have hc0:=cum_bd l0 l1 k
 have hc12:=cum_mono l0 l1 12 (k+1) (by omega) (lr_ _)
 rw[cum_12] at hc12
 have hst:=dto_step (y:=Y)
 have d0:=dto_mono (a:=1950) (b:=Y) (by omega) hY
 have d1:=dto_mono (a:=Y+1) (b:=10000) (by omega) (by omega)
 rw[dto_1950] at d0
 rw[dto_10000] at d1
 obtain⟨D,hD⟩:=nm_ (daysAt Y m d)
 have hD':D=dto Y+d - 1+cum (lp Y) k:=by rw[←hD];unfold daysAt;rw[hix]
 obtain⟨S,hS⟩:=nm_ (secAt Y m d h n s)
 have hS':S= -631152000+ ((D*24+h)*60+n)*60+s:=by rw[←hS,←hD];rfl
 rw[hS]
 have hr:InR S:=by unfold InR;omega
 have hday:dayOf S=D:=by unfold dayOf;omega
 have hy:yOf S=Y:=by unfold yOf;rw[hday];exact(yearOf_uniq (by omega) (by omega) (by omega) (by omega) (by omega)).symm
 have hrr:rOf S=cum (lp Y) k+d - 1:=by unfold rOf;rw[hday,hy];omega
 have hmo:mOf S=k:=by unfold mOf;rw[hy,hrr];exact(monOf_uniq l0 l1 (by omega) (by omega) hk12 (by omega) (by omega)).symm
 refine⟨hr,hy,?_⟩
 unfold clk
 rw[hy,hmo,hrr]
 have e1:(k:Int)+1=m:=by omega
 have e2:cum (lp Y) k+d - 1 - cum (lp Y) k+1=d:=by omega
 have e3:(S+631152000) / 60/ 60%24=h:=by omega
 have e4:(S+631152000) / 60%60=n:=by omega
 have e5:(S+631152000)%60=s:=by omega
 rw[e1,e2,e3,e4,e5]
theorem clk_facts {S:Int}(hr:InR S): ∃c2 c3 c4 c5 c6:Int,clk S=[yOf S/ 100,yOf S%100,c2,c3,c4,c5,c6]∧(1≤c2∧c2≤12)∧(1≤c3∧c3≤99)∧(0≤c4∧c4≤23)∧(0≤c5∧c5≤59)∧(0≤c6∧c6≤59)∧c3≤mon (lp (yOf S)) (c2 - 1).toNat:=by
 have hm:=(m_spec hr).2.2
 have hd:=d_bd hr
 refine⟨_,_,_,_,_,rfl,?_,?_,?_,?_,?_,?_⟩
 ·omega
 ·omega
 ·omega
 ·omega
 ·omega
 ·rw[show((mOf S:Int)+1 - 1).toNat=mOf S by omega];omega
theorem dig2_wr {n:Int}(h:0≤n)(h2:n≤99):dig2 (48+n/ 10) (48+n%10)=n:=by unfold dig2;rw[if_pos (by omega)];omega
theorem dig2_inv {a b n:Int}(e:dig2 a b=n)(h:0≤n):a=48+n/ 10∧b=48+n%10:=by unfold dig2 at e;split at e<;>omega
theorem time_no {t:Int}{xs:List Int}(h: ¬OkT t xs):timeN t xs=0∧timeE t xs=32:=⟨if_neg h,if_neg h⟩
theorem time_yes {t S:Int}{xs:List Int}(hr:InR S)(ht:tagOf S=t)(hb:bodyOf S=xs):timeN t xs=S∧timeE t xs=0:=by
 obtain⟨a,b⟩:=okT_back hr
 rw[ht,hb] at a b
 exact⟨(if_pos a).trans b,if_pos a⟩
theorem time_else {t:Int}{xs:List Int}(h1: ¬(t=23∧xs.length=13))(h2: ¬(t=24∧xs.length=15)):timeN t xs=0∧timeE t xs=32:=by
 refine time_no ?_
 rintro⟨hr,ht,hb⟩
 have hl:=bodyOf_len (s:=timeS t xs)
 rw[hb] at hl
 unfold tagOf at ht
 split at ht
 ·rename_i h;rw[if_pos h] at hl;exact h2 ⟨ht.symm,hl⟩
 ·rename_i h;rw[if_neg h] at hl;exact h1 ⟨ht.symm,hl⟩
theorem plain23 {xs:List Int}(hl:xs.length=13){p m d h n s z:Int}(e0:dig2 (xs.getD 0 0) (xs.getD 1 0)=p)(e1:dig2 (xs.getD 2 0) (xs.getD 3 0)=m)(e2:dig2 (xs.getD 4 0) (xs.getD 5 0)=d)(e3:dig2 (xs.getD 6 0) (xs.getD 7 0)=h)(e4:dig2 (xs.getD 8 0) (xs.getD 9 0)=n)(e5:dig2 (xs.getD 10 0) (xs.getD 11 0)=s)(ez:xs.getD 12 0=z){Y:Int}(hY:(0≤p∧p<50→Y=2000+p)∧(50≤p→Y=1900+p)):
 (0≤p→TailOk Y m d h n s z→timeN 23 xs=secAt Y m d h n s∧timeE 23 xs=0)∧(¬((0≤p)∧TailOk Y m d h n s z)→timeN 23 xs=0∧timeE 23 xs=32):=by
 constructor
 ·rintro hp ⟨hz,hm,hd,hh,hn,hs,hdm⟩
  have hb:=dig2_bd (xs.getD 0 0) (xs.getD 1 0)
  rw[e0] at hb
  have hY1:(1950≤Y∧Y≤2049)∧Y%100=p:=by
   rcases Int.lt_or_le p 50 with h |h
   ·have:=hY.1 ⟨hp,h⟩;omega
   ·have:=hY.2 h;omega
  obtain⟨hr,hy,hc⟩:=clk_secAt (Y:=Y) (by omega) (by omega) hm hd hh hn hs hdm
  obtain⟨S,hS⟩:=nm_ (secAt Y m d h n s)
  rw[hS] at hr hy hc⊢
  have ty:=tag_year hr
  rw[hy] at ty
  have ht:tagOf S=23:=by unfold tagOf;exact if_neg (fun h=>by have:=ty.1 h;omega)
  refine time_yes hr ht ?_
  unfold bodyOf
  rw[ht,hc]
  have i0:=dig2_inv e0 (by omega)
  have i1:=dig2_inv e1 (by omega)
  have i2:=dig2_inv e2 (by omega)
  have i3:=dig2_inv e3 (by omega)
  have i4:=dig2_inv e4 (by omega)
  have i5:=dig2_inv e5 (by omega)
  clear hS
  rcases xs with _ | ⟨x0,xs⟩
  ·exact absurd hl (by simp)
  rcases xs with _ | ⟨x1,xs⟩
  ·exact absurd hl (by simp)
  rcases xs with _ | ⟨x2,xs⟩
  ·exact absurd hl (by simp)
  rcases xs with _ | ⟨x3,xs⟩
  ·exact absurd hl (by simp)
  rcases xs with _ | ⟨x4,xs⟩
  ·exact absurd hl (by simp)
  rcases xs with _ | ⟨x5,xs⟩
  ·exact absurd hl (by simp)
  rcases xs with _ | ⟨x6,xs⟩
  ·exact absurd hl (by simp)
  rcases xs with _ | ⟨x7,xs⟩
  ·exact absurd hl (by simp)
  rcases xs with _ | ⟨x8,xs⟩
  ·exact absurd hl (by simp)
  rcases xs with _ | ⟨x9,xs⟩
  ·exact absurd hl (by simp)
  rcases xs with _ | ⟨x10,xs⟩
  ·exact absurd hl (by simp)
  rcases xs with _ | ⟨x11,xs⟩
  ·exact absurd hl (by simp)
  rcases xs with _ | ⟨x12,xs⟩
  ·exact absurd hl (by simp)
  obtain rfl:xs=[]:=by simpa using hl
  obtain⟨j0a,j0b⟩:x0=_∧x1=_:=i0
  obtain⟨j1a,j1b⟩:x2=_∧x3=_:=i1
  obtain⟨j2a,j2b⟩:x4=_∧x5=_:=i2
  obtain⟨j3a,j3b⟩:x6=_∧x7=_:=i3
  obtain⟨j4a,j4b⟩:x8=_∧x9=_:=i4
  obtain⟨j5a,j5b⟩:x10=_∧x11=_:=i5
  have jz:x12=z:=ez
  rw[hY1.2]
  rw[jz,hz,j0a,j0b,j1a,j1b,j2a,j2b,j3a,j3b,j4a,j4b,j5a,j5b]
  rfl
 ·intro hno
  refine time_no ?_
  rintro⟨hr,ht,hb⟩
  refine hno ?_
  clear hno
  obtain⟨S,hS⟩:=nm_ (timeS 23 xs)
  rw[hS] at hr ht hb
  clear hS
  have ty:=tag_year hr
  have hys:=y_spec hr
  obtain⟨c2,c3,c4,c5,c6,hc,f2,f3,f4,f5,f6,f7⟩:=clk_facts hr
  have hyb:yOf S<2050:=by
   unfold tagOf at ht
   split at ht
   ·rename_i h;exact absurd ht (by decide)
   ·rename_i h;exact Int.not_le.1 (fun h2=>h (ty.2 h2))
  unfold bodyOf at hb
  rw[ht,hc] at hb
  obtain⟨Z,hZ⟩:=nm_ (yOf S)
  rw[hZ] at hb f7 hys hyb
  clear hc hZ ty ht hr hl
  have hb:[48+Z%100/ 10,48+Z%100%10,48+c2/ 10,48+c2%10,48+c3/ 10,48+c3%10,48+c4/ 10,48+c4%10,48+c5/ 10,48+c5%10,48+c6/ 10,48+c6%10,90]=xs:=hb
  subst hb
  have g0:p=Z%100:=e0.symm.trans (dig2_wr (by omega) (by omega))
  have g1:m=c2:=e1.symm.trans (dig2_wr (by omega) (by omega))
  have g2:d=c3:=e2.symm.trans (dig2_wr (by omega) (by omega))
  have g3:h=c4:=e3.symm.trans (dig2_wr (by omega) (by omega))
  have g4:n=c5:=e4.symm.trans (dig2_wr (by omega) (by omega))
  have g5:s=c6:=e5.symm.trans (dig2_wr (by omega) (by omega))
  have gz:z=90:=ez.symm
  clear e0 e1 e2 e3 e4 e5 ez
  have hYZ:Y=Z:=by
   rcases Int.lt_or_le p 50 with h |h
   ·have:=hY.1 ⟨by omega,h⟩;omega
   ·have:=hY.2 h;omega
  clear hY
  subst hYZ
  subst g1 g2 g3 g4 g5 gz
  exact⟨by omega,rfl,f2,f3.1,f4,f5,f6,f7⟩
theorem plain24 {xs:List Int}(hl:xs.length=15){p q m d h n s z:Int}(e0:dig2 (xs.getD 0 0) (xs.getD 1 0)=p)(e1:dig2 (xs.getD 2 0) (xs.getD 3 0)=q)(e2:dig2 (xs.getD 4 0) (xs.getD 5 0)=m)(e3:dig2 (xs.getD 6 0) (xs.getD 7 0)=d)(e4:dig2 (xs.getD 8 0) (xs.getD 9 0)=h)(e5:dig2 (xs.getD 10 0) (xs.getD 11 0)=n)(e6:dig2 (xs.getD 12 0) (xs.getD 13 0)=s)(ez:xs.getD 14 0=z):
 ((0≤p∧0≤q∧2050≤100*p+q)→TailOk (100*p+q) m d h n s z→timeN 24 xs=secAt (100*p+q) m d h n s∧timeE 24 xs=0)∧(¬((0≤p∧0≤q∧2050≤100*p+q)∧TailOk (100*p+q) m d h n s z)→timeN 24 xs=0∧timeE 24 xs=32):=by
 constructor
 ·rintro⟨hp,hq,hpq⟩ ⟨hz,hm,hd,hh,hn,hs,hdm⟩
  have hb:=dig2_bd (xs.getD 0 0) (xs.getD 1 0)
  rw[e0] at hb
  have hb':=dig2_bd (xs.getD 2 0) (xs.getD 3 0)
  rw[e1] at hb'
  obtain⟨hr,hy,hc⟩:=clk_secAt (Y:=100*p+q) (by omega) (by omega) hm hd hh hn hs hdm
  obtain⟨S,hS⟩:=nm_ (secAt (100*p+q) m d h n s)
  rw[hS] at hr hy hc⊢
  have ty:=tag_year hr
  rw[hy] at ty
  have ht:tagOf S=24:=by unfold tagOf;exact if_pos (ty.2 (by omega))
  refine time_yes hr ht ?_
  unfold bodyOf
  rw[ht,hc]
  have i0:=dig2_inv e0 (by omega)
  have i1:=dig2_inv e1 (by omega)
  have i2:=dig2_inv e2 (by omega)
  have i3:=dig2_inv e3 (by omega)
  have i4:=dig2_inv e4 (by omega)
  have i5:=dig2_inv e5 (by omega)
  have i6:=dig2_inv e6 (by omega)
  clear hS
  rcases xs with _ | ⟨x0,xs⟩
  ·exact absurd hl (by simp)
  rcases xs with _ | ⟨x1,xs⟩
  ·exact absurd hl (by simp)
  rcases xs with _ | ⟨x2,xs⟩
  ·exact absurd hl (by simp)
  rcases xs with _ | ⟨x3,xs⟩
  ·exact absurd hl (by simp)
  rcases xs with _ | ⟨x4,xs⟩
  ·exact absurd hl (by simp)
  rcases xs with _ | ⟨x5,xs⟩
  ·exact absurd hl (by simp)
  rcases xs with _ | ⟨x6,xs⟩
  ·exact absurd hl (by simp)
  rcases xs with _ | ⟨x7,xs⟩
  ·exact absurd hl (by simp)
  rcases xs with _ | ⟨x8,xs⟩
  ·exact absurd hl (by simp)
  rcases xs with _ | ⟨x9,xs⟩
  ·exact absurd hl (by simp)
  rcases xs with _ | ⟨x10,xs⟩
  ·exact absurd hl (by simp)
  rcases xs with _ | ⟨x11,xs⟩
  ·exact absurd hl (by simp)
  rcases xs with _ | ⟨x12,xs⟩
  ·exact absurd hl (by simp)
  rcases xs with _ | ⟨x13,xs⟩
  ·exact absurd hl (by simp)
  rcases xs with _ | ⟨x14,xs⟩
  ·exact absurd hl (by simp)
  obtain rfl:xs=[]:=by simpa using hl
  obtain⟨j0a,j0b⟩:x0=_∧x1=_:=i0
  obtain⟨j1a,j1b⟩:x2=_∧x3=_:=i1
  obtain⟨j2a,j2b⟩:x4=_∧x5=_:=i2
  obtain⟨j3a,j3b⟩:x6=_∧x7=_:=i3
  obtain⟨j4a,j4b⟩:x8=_∧x9=_:=i4
  obtain⟨j5a,j5b⟩:x10=_∧x11=_:=i5
  obtain⟨j6a,j6b⟩:x12=_∧x13=_:=i6
  have jz:x14=z:=ez
  have u1:(100*p+q) / 100=p:=by omega
  have u2:(100*p+q)%100=q:=by omega
  rw[u1,u2]
  rw[jz,hz,j0a,j0b,j1a,j1b,j2a,j2b,j3a,j3b,j4a,j4b,j5a,j5b,j6a,j6b]
  rfl
 ·intro hno
  refine time_no ?_
  rintro⟨hr,ht,hb⟩
  refine hno ?_
  clear hno
  obtain⟨S,hS⟩:=nm_ (timeS 24 xs)
  rw[hS] at hr ht hb
  clear hS
  have ty:=tag_year hr
  have hys:=y_spec hr
  obtain⟨c2,c3,c4,c5,c6,hc,f2,f3,f4,f5,f6,f7⟩:=clk_facts hr
  have hyb:2050≤yOf S:=by
   unfold tagOf at ht
   split at ht
   ·rename_i h;exact ty.1 h
   ·rename_i h;exact absurd ht (by decide)
  unfold bodyOf at hb
  rw[ht,hc] at hb
  obtain⟨Z,hZ⟩:=nm_ (yOf S)
  rw[hZ] at hb f7 hys hyb
  clear hc hZ ty ht hr hl
  have hb:[48+Z/ 100/ 10,48+Z/ 100%10,48+Z%100/ 10,48+Z%100%10,48+c2/ 10,48+c2%10,48+c3/ 10,48+c3%10,48+c4/ 10,48+c4%10,48+c5/ 10,48+c5%10,48+c6/ 10,48+c6%10,90]=xs:=hb
  subst hb
  have g0:p=Z/ 100:=e0.symm.trans (dig2_wr (by omega) (by omega))
  have g1:q=Z%100:=e1.symm.trans (dig2_wr (by omega) (by omega))
  have g2:m=c2:=e2.symm.trans (dig2_wr (by omega) (by omega))
  have g3:d=c3:=e3.symm.trans (dig2_wr (by omega) (by omega))
  have g4:h=c4:=e4.symm.trans (dig2_wr (by omega) (by omega))
  have g5:n=c5:=e5.symm.trans (dig2_wr (by omega) (by omega))
  have g6:s=c6:=e6.symm.trans (dig2_wr (by omega) (by omega))
  have gz:z=90:=ez.symm
  clear e0 e1 e2 e3 e4 e5 e6 ez
  have hYZ:100*p+q=Z:=by omega
  rw[hYZ]
  subst g2 g3 g4 g5 g6 gz
  exact⟨⟨by omega,by omega,hyb⟩,rfl,f2,f3.1,f4,f5,f6,f7⟩
end Go.Proofs.YtkjkhoglkpepiaaGreatDoor.txm
namespace Go.Proofs.YtkjkhoglkpepiaaGreatDoor.txc
open Go.RowKit txm tlvc
theorem number_at (A:Option Addr)(n c:Nat)(i:Int)(k:Nat)(v:Int)(xs:List Int)(w:World)(hi:i=(k:Int))(hx:Bys w A n xs)(hk:k+1<n)(hn:n≤1000)(hv:dig2 (xs.getD k 0) (xs.getD (k+1) 0)=v):
 Calls Tryz.prog 194 #[.slice A n c,.int .i64 i] w fun e w'=>e=.returned (.int .i64 v)∧Below w.heap.size w w':=by
 subst hi;subst hv;exact number_any A n c k xs w hx hk hn
theorem month_at (y i:Int)(k:Nat)(v:Int)(w:World)(h:1≤y)(h2:y≤1000000)(hk:k<12)(hi:i=(k:Int)+1)(hv:mon (lp y) k=v):
 Calls Tryz.prog 159 #[.int .i64 y,.int .i64 i] w fun e w'=>e=.returned (.int .i64 v)∧Below w.heap.size w w':=by
 subst hi;subst hv;exact month_any y k w h h2 hk
theorem two_ret {a b:Int}(h:a=b):(Ending.returned (.tuple #[.int .i64 a,.int .i64 0]))=.returned (.tuple #[.int .i64 b,.int .i64 0]):=by rw[h]
theorem getD_drop' (xs:List Int)(j k i:Nat)(h:i=j+k):(xs.drop j).getD k 0=xs.getD i 0:=by subst h;simp[List.getD_eq_getElem?_getD]
abbrev TimeIs (t:Int)(xs:List Int)(w:World):Ending→World→Prop:=fun e w'=>e=.returned (.tuple #[.int .i64 (timeN t xs),.int .i64 (timeE t xs)])∧Below w.heap.size w w'
theorem refTime_else (t:Int)(A:Option Addr)(cap:Nat)(xs:List Int)(w:World)(h1: ¬(t=23∧xs.length=13))(h2: ¬(t=24∧xs.length=15))(hm:xs.length≤9223372036854775807):
 Calls Tryz.prog 154 #[.int .u8 t,.slice A xs.length cap] w (TimeIs t xs w):=by
 obtain⟨e1,e2⟩:=time_else h1 h2
 unfold TimeIs
 rw[e1,e2]
 clear e1 e2
 obtain⟨n,hn⟩:=nm_ (xs.length)
 rw[hn] at h1 h2 hm⊢
 clear hn
 by_cases a:t=23
 ·have b: ¬(n=13):=fun h=>h1 ⟨a,h⟩
  have b': ¬((n:Int)=13):=by omega
  subst a
  clear h1 h2 b
  go_enter Tryz.func154,Tryz.ntmps154
  go_wp2
  go_ret2
  exact⟨rfl,br_ _ _⟩
 ·by_cases c:t=24
  ·have b: ¬(n=15):=fun h=>h2 ⟨c,h⟩
   have b': ¬((n:Int)=15):=by omega
   subst c
   clear h1 h2 b a
   go_enter Tryz.func154,Tryz.ntmps154
   go_wp2
   go_ret2
   exact⟨rfl,br_ _ _⟩
  ·clear h1 h2
   go_enter Tryz.func154,Tryz.ntmps154
   go_wp2
   go_ret2
   exact⟨rfl,br_ _ _⟩
end Go.Proofs.YtkjkhoglkpepiaaGreatDoor.txc
namespace Go.Proofs.YtkjkhoglkpepiaaGreatDoor.txc
open Go.RowKit txm tlvc
theorem refTime_23a (A:Option Addr)(cap:Nat)(xs:List Int)(w:World)(hx:Bys w A 13 xs)(hc:13≤cap)(hm:cap≤9223372036854775807)(hco:dig2 (xs.getD 0 0) (xs.getD 1 0)<50):
 Calls Tryz.prog 154 #[.int .u8 23,.slice A 13 cap] w (TimeIs 23 xs w):=by
 have hl:xs.length=13:=hx.1
 obtain⟨p,e0⟩:=nm_ (dig2 (xs.getD 0 0) (xs.getD 1 0))
 have b0:=dig2_bd (xs.getD 0 0) (xs.getD 1 0)
 rw[e0] at b0
 obtain⟨b0,b0'⟩:=b0
 obtain⟨m,e1⟩:=nm_ (dig2 (xs.getD 2 0) (xs.getD 3 0))
 have b1:=dig2_bd (xs.getD 2 0) (xs.getD 3 0)
 rw[e1] at b1
 obtain⟨b1,b1'⟩:=b1
 obtain⟨d,e2⟩:=nm_ (dig2 (xs.getD 4 0) (xs.getD 5 0))
 have b2:=dig2_bd (xs.getD 4 0) (xs.getD 5 0)
 rw[e2] at b2
 obtain⟨b2,b2'⟩:=b2
 obtain⟨h,e3⟩:=nm_ (dig2 (xs.getD 6 0) (xs.getD 7 0))
 have b3:=dig2_bd (xs.getD 6 0) (xs.getD 7 0)
 rw[e3] at b3
 obtain⟨b3,b3'⟩:=b3
 obtain⟨n,e4⟩:=nm_ (dig2 (xs.getD 8 0) (xs.getD 9 0))
 have b4:=dig2_bd (xs.getD 8 0) (xs.getD 9 0)
 rw[e4] at b4
 obtain⟨b4,b4'⟩:=b4
 obtain⟨s,e5⟩:=nm_ (dig2 (xs.getD 10 0) (xs.getD 11 0))
 have b5:=dig2_bd (xs.getD 10 0) (xs.getD 11 0)
 rw[e5] at b5
 obtain⟨b5,b5'⟩:=b5
 obtain⟨z,ez⟩:=nm_ (xs.getD 12 0)
 have bz:=hx.2.1.getD 12
 rw[ez] at bz
 obtain⟨bz0,bz1⟩:=bz
 have hP:=fun(Y:Int) (hY:(0≤p∧p<50→Y=2000+p)∧(50≤p→Y=1900+p))=>plain23 hl e0 e1 e2 e3 e4 e5 ez (Y:=Y) hY
 unfold TimeIs
 obtain⟨N,hN⟩:=nm_ (timeN 23 xs)
 obtain⟨E,hE⟩:=nm_ (timeE 23 xs)
 rw[hN,hE]
 simp only[hN,hE] at hP
 clear hN hE
 have HQ0:=hd_ e0
 have hv0:dig2 ((xs.drop 2).getD 0 0) ((xs.drop 2).getD (0+1) 0)=m:=by rw[getD_drop' xs 2 0 2 rfl,getD_drop' xs 2 (0+1) 3 rfl];exact e1
 have HV0:=hd_ hv0
 have hv1:dig2 ((xs.drop 2).getD 2 0) ((xs.drop 2).getD (2+1) 0)=d:=by rw[getD_drop' xs 2 2 4 rfl,getD_drop' xs 2 (2+1) 5 rfl];exact e2
 have HV1:=hd_ hv1
 have hv2:dig2 ((xs.drop 2).getD 4 0) ((xs.drop 2).getD (4+1) 0)=h:=by rw[getD_drop' xs 2 4 6 rfl,getD_drop' xs 2 (4+1) 7 rfl];exact e3
 have HV2:=hd_ hv2
 have hv3:dig2 ((xs.drop 2).getD 6 0) ((xs.drop 2).getD (6+1) 0)=n:=by rw[getD_drop' xs 2 6 8 rfl,getD_drop' xs 2 (6+1) 9 rfl];exact e4
 have HV3:=hd_ hv3
 have hv4:dig2 ((xs.drop 2).getD 8 0) ((xs.drop 2).getD (8+1) 0)=s:=by rw[getD_drop' xs 2 8 10 rfl,getD_drop' xs 2 (8+1) 11 rfl];exact e5
 have HV4:=hd_ hv4
 have hvz:(xs.drop 2).getD 10 0=z:=by rw[getD_drop' xs 2 10 12 rfl];exact ez
 have HVZ:=hd_ hvz
 have hcut:=hx.cut (k:=2) (cap:=cap) (by omega) hc
 rw[if_neg (by omega)] at hcut
 obtain⟨b,off,rfl,hblt,hcells⟩:=hx.2.2 (by omega)
 have hc2: ¬(cap=2):=by omega
 rw[e0] at hco
 clear hcells hblt ez e0 e1 e2 e3 e4 e5 hv0 hv1 hv2 hv3 hv4 hvz
 have HL:True:=trivial
 have HM:True:=trivial
 go_enter Tryz.func154,Tryz.ntmps154
 go_wp2_with fail
 refine(number_at _ _ _ _ 0 p _ _ (by rfl) hx (by omega) (by omega) HQ0.out).mono ?_
 rintro e wp ⟨rfl,hB⟩
 clear HQ0 hx
 by_cases j0:p<0
 ·have j0': ¬(50≤p):=by omega
  obtain⟨rfl,rfl⟩:=(hP (1900+p) ⟨fun _=>by omega,fun _=>rfl⟩).2 (fun q=>by have:=q.1;omega)
  clear hP HL HM
  go_wp2
  go_ret2
  exact⟨rfl,hB⟩
 ·have HP:=hd_ (hP (2000+p) ⟨fun _=>rfl,fun _=>by omega⟩)
  clear hP
  go_wp2_with fail
  refine(number_at _ _ _ _ 0 m _ _ (by rfl) (hcut.below hB) (by omega) (by omega) HV0.out).mono ?_
  rintro e wn0 ⟨rfl,hbn⟩
  have hB':=then_ hB hbn
  clear hB hbn
  have hB:=hB'
  clear hB'
  go_wp2_with fail
  refine(number_at _ _ _ _ 2 d _ _ (by rfl) (hcut.below hB) (by omega) (by omega) HV1.out).mono ?_
  rintro e wn1 ⟨rfl,hbn⟩
  have hB':=then_ hB hbn
  clear hB hbn
  have hB:=hB'
  clear hB'
  go_wp2_with fail
  refine(number_at _ _ _ _ 4 h _ _ (by rfl) (hcut.below hB) (by omega) (by omega) HV2.out).mono ?_
  rintro e wn2 ⟨rfl,hbn⟩
  have hB':=then_ hB hbn
  clear hB hbn
  have hB:=hB'
  clear hB'
  go_wp2_with fail
  refine(number_at _ _ _ _ 6 n _ _ (by rfl) (hcut.below hB) (by omega) (by omega) HV3.out).mono ?_
  rintro e wn3 ⟨rfl,hbn⟩
  have hB':=then_ hB hbn
  clear hB hbn
  have hB:=hB'
  clear hB'
  go_wp2_with fail
  refine(number_at _ _ _ _ 8 s _ _ (by rfl) (hcut.below hB) (by omega) (by omega) HV4.out).mono ?_
  rintro e wn4 ⟨rfl,hbn⟩
  have hB':=then_ hB hbn
  clear hB hbn
  have hB:=hB'
  clear hB'
  have hz:=(hcut.below hB).2.2 (by omega)
  obtain⟨b2,off2,hA2,hblt2,hcells2⟩:=hz
  cases hA2
  have hz:=hcells2 10 (by omega)
  rw[HVZ.out] at hz
  clear hcells2 hblt2 hcut HV0 HV1 HV2 HV3 HV4 HVZ
  by_cases k0:z=90
  ·subst k0
   by_cases k1:m<1
   ·obtain⟨rfl,rfl⟩:=HP.out.2 (fun q=>by obtain⟨_,_,⟨_,_⟩,_,⟨_,_⟩,⟨_,_⟩,⟨_,_⟩,_⟩:=q;omega)
    clear HP HL HM
    go_wp2
    go_ret2
    exact⟨rfl,hB⟩
   ·by_cases k2:12<m
    ·obtain⟨rfl,rfl⟩:=HP.out.2 (fun q=>by obtain⟨_,_,⟨_,_⟩,_,⟨_,_⟩,⟨_,_⟩,⟨_,_⟩,_⟩:=q;omega)
     clear HP HL HM
     go_wp2
     go_ret2
     exact⟨rfl,hB⟩
    ·by_cases k3:d<1
     ·obtain⟨rfl,rfl⟩:=HP.out.2 (fun q=>by obtain⟨_,_,⟨_,_⟩,_,⟨_,_⟩,⟨_,_⟩,⟨_,_⟩,_⟩:=q;omega)
      clear HP HL HM
      go_wp2
      go_ret2
      exact⟨rfl,hB⟩
     ·by_cases k4:h<0
      ·obtain⟨rfl,rfl⟩:=HP.out.2 (fun q=>by obtain⟨_,_,⟨_,_⟩,_,⟨_,_⟩,⟨_,_⟩,⟨_,_⟩,_⟩:=q;omega)
       clear HP HL HM
       go_wp2
       go_ret2
       exact⟨rfl,hB⟩
      ·by_cases k5:23<h
       ·obtain⟨rfl,rfl⟩:=HP.out.2 (fun q=>by obtain⟨_,_,⟨_,_⟩,_,⟨_,_⟩,⟨_,_⟩,⟨_,_⟩,_⟩:=q;omega)
        clear HP HL HM
        go_wp2
        go_ret2
        exact⟨rfl,hB⟩
       ·by_cases k6:n<0
        ·obtain⟨rfl,rfl⟩:=HP.out.2 (fun q=>by obtain⟨_,_,⟨_,_⟩,_,⟨_,_⟩,⟨_,_⟩,⟨_,_⟩,_⟩:=q;omega)
         clear HP HL HM
         go_wp2
         go_ret2
         exact⟨rfl,hB⟩
        ·by_cases k7:59<n
         ·obtain⟨rfl,rfl⟩:=HP.out.2 (fun q=>by obtain⟨_,_,⟨_,_⟩,_,⟨_,_⟩,⟨_,_⟩,⟨_,_⟩,_⟩:=q;omega)
          clear HP HL HM
          go_wp2
          go_ret2
          exact⟨rfl,hB⟩
         ·by_cases k8:s<0
          ·obtain⟨rfl,rfl⟩:=HP.out.2 (fun q=>by obtain⟨_,_,⟨_,_⟩,_,⟨_,_⟩,⟨_,_⟩,⟨_,_⟩,_⟩:=q;omega)
           clear HP HL HM
           go_wp2
           go_ret2
           exact⟨rfl,hB⟩
          ·by_cases k9:59<s
           ·obtain⟨rfl,rfl⟩:=HP.out.2 (fun q=>by obtain⟨_,_,⟨_,_⟩,_,⟨_,_⟩,⟨_,_⟩,⟨_,_⟩,_⟩:=q;omega)
            clear HP HL HM
            go_wp2
            go_ret2
            exact⟨rfl,hB⟩
           ·obtain⟨M,hM⟩:=nm_ (mon (lp (2000+p)) (m - 1).toNat)
            obtain⟨L,hL⟩:=nm_ (lp (2000+p))
            have hl01:=lp_01 (y:=(2000+p)) (by omega)
            rw[hL] at hM hl01
            obtain⟨hl0,hl1⟩:=hl01
            have hMb:=mon_bd hl0 hl1 (m - 1).toNat
            rw[hM] at hMb
            obtain⟨hMb0,hMb1⟩:=hMb
            have HL2:=hd_ hL
            have HM2:=hd_ hM
            clear hL hM HL HM
            go_wp2_with fail
            refine(month_at _ _ (m - 1).toNat M _ (by omega) (by omega) (by omega) (by omega) (by rw[HL2.out];exact HM2.out)).mono ?_
            rintro e wq ⟨rfl,hbn⟩
            have hB':=then_ hB hbn
            clear hB hbn hz
            have hB:=hB'
            clear hB'
            by_cases km:M<d
            ·obtain⟨rfl,rfl⟩:=HP.out.2 (fun q=>by
              obtain⟨_,_,⟨_,_⟩,_,⟨_,_⟩,⟨_,_⟩,⟨_,_⟩,q⟩:=q
              rw[HL2.out,HM2.out] at q
              omega)
             clear HP HL2 HM2
             go_wp2
             go_ret2
             exact⟨rfl,hB⟩
            ·have hok:=HP.out.1 (by omega) ⟨by first |exact k0 |rfl,⟨by omega,by omega⟩,by omega,⟨by omega,by omega⟩,⟨by omega,by omega⟩,⟨by omega,by omega⟩,by rw[HL2.out,HM2.out];omega⟩
             obtain⟨rfl,rfl⟩:=hok
             have hdb:=dto_bd (y:=(2000+p)) (by omega) (by omega)
             obtain⟨hdb0,hdb1⟩:=hdb
             have hsec: ∀k:Nat,(k:Int)+1=m→(dto (2000+p) - 7305+d - 1+cum L k)*86400+ (3600*h+60*n+s)=secAt (2000+p) m d h n s:=fun k hk=>by
              have hix:mIx m=k:=by unfold mIx;omega
              unfold secAt daysAt
              rw[hix,HL2.out]
              omega
             have HS:=hd_ hsec
             clear HP HM2 hsec
             go_wp2_with fail
             refine(days_any _ _ (by omega) (by omega)).mono ?_
             rintro e w' ⟨rfl,rfl⟩
             obtain⟨DY,hDY⟩:=nm_ (dto (2000+p))
             rw[hDY] at hdb0 hdb1 HS⊢
             clear hDY
             go_wp2_with fail
             go_outline
             go_loopw [16,17] (fun t16 t17 wr=>∃k:Nat,k<12∧(k:Int)+1≤m∧t16=.int .i64 (DY - 7305+d - 1+cum L k)∧t17=.int .i64 ((k:Int)+1)∧Below w.heap.size w wr) (fun _ t17 _=>13 - (intOf t17).toNat)
             case atStart=>exact⟨0,by omega,by omega,by simp[cum],rfl,hB⟩
             case round=>
              obtain⟨k,hk,hkm,rfl,rfl,hbw⟩:=hrel
              have hcs:=cum_step L hk
              have hcb:=cum_bd hl0 hl1 k
              have hmbd:=mon_bd hl0 hl1 k
              obtain⟨hcb0,hcb1⟩:=hcb
              obtain⟨hmbd0,hmbd1⟩:=hmbd
              by_cases hc:(k:Int)+1<m
              ·have hk11:k+1<12:=by omega
               obtain⟨CK,hCK⟩:=nm_ (cum L k)
               obtain⟨MK,hMK⟩:=nm_ (mon L k)
               rw[hCK] at hcs hcb0 hcb1⊢
               rw[hMK] at hcs hmbd0 hmbd1
               have HCS:=hd_ hcs
               have HMK:=hd_ hMK
               clear hcs hMK hCK
               go_wp2_with fail
               refine(month_at _ _ k MK _ (by omega) (by omega) hk rfl (by rw[HL2.out];exact HMK.out)).mono ?_
               rintro e w1 ⟨rfl,hbm⟩
               have hbw1:=then_ hbw hbm
               clear hbw hbm
               go_wp2_with fail
               go_round
               case rel=>exact⟨k+1,by omega,by omega,by rw[HCS.out];exact congrArg (Value.int .i64) (by omega),by simp,hbw1⟩
               case measure=>simp[intOf];omega
              ·have hkm2:(k:Int)+1=m:=by omega
               have hs:=HS.out k hkm2
               obtain⟨CK,hCK⟩:=nm_ (cum L k)
               rw[hCK] at hs hcb0 hcb1⊢
               have HS2:=hd_ hs
               clear hcs hCK HS hs
               go_wp2
               go_ret2
               exact⟨two_ret (by rw[←HS2.out]),hbw⟩
  ·have k0':(z==90)=false:=by simpa using k0
   obtain⟨rfl,rfl⟩:=HP.out.2 (fun q=>by obtain⟨_,_,⟨_,_⟩,_,⟨_,_⟩,⟨_,_⟩,⟨_,_⟩,_⟩:=q;exact k0 (by assumption))
   clear HP HL HM
   go_wp2
   go_ret2
   exact⟨rfl,hB⟩
end Go.Proofs.YtkjkhoglkpepiaaGreatDoor.txc
namespace Go.Proofs.YtkjkhoglkpepiaaGreatDoor.txc
open Go.RowKit txm tlvc
theorem refTime_23b (A:Option Addr)(cap:Nat)(xs:List Int)(w:World)(hx:Bys w A 13 xs)(hc:13≤cap)(hm:cap≤9223372036854775807)(hco:50≤dig2 (xs.getD 0 0) (xs.getD 1 0)):
 Calls Tryz.prog 154 #[.int .u8 23,.slice A 13 cap] w (TimeIs 23 xs w):=by
 have hl:xs.length=13:=hx.1
 obtain⟨p,e0⟩:=nm_ (dig2 (xs.getD 0 0) (xs.getD 1 0))
 have b0:=dig2_bd (xs.getD 0 0) (xs.getD 1 0)
 rw[e0] at b0
 obtain⟨b0,b0'⟩:=b0
 obtain⟨m,e1⟩:=nm_ (dig2 (xs.getD 2 0) (xs.getD 3 0))
 have b1:=dig2_bd (xs.getD 2 0) (xs.getD 3 0)
 rw[e1] at b1
 obtain⟨b1,b1'⟩:=b1
 obtain⟨d,e2⟩:=nm_ (dig2 (xs.getD 4 0) (xs.getD 5 0))
 have b2:=dig2_bd (xs.getD 4 0) (xs.getD 5 0)
 rw[e2] at b2
 obtain⟨b2,b2'⟩:=b2
 obtain⟨h,e3⟩:=nm_ (dig2 (xs.getD 6 0) (xs.getD 7 0))
 have b3:=dig2_bd (xs.getD 6 0) (xs.getD 7 0)
 rw[e3] at b3
 obtain⟨b3,b3'⟩:=b3
 obtain⟨n,e4⟩:=nm_ (dig2 (xs.getD 8 0) (xs.getD 9 0))
 have b4:=dig2_bd (xs.getD 8 0) (xs.getD 9 0)
 rw[e4] at b4
 obtain⟨b4,b4'⟩:=b4
 obtain⟨s,e5⟩:=nm_ (dig2 (xs.getD 10 0) (xs.getD 11 0))
 have b5:=dig2_bd (xs.getD 10 0) (xs.getD 11 0)
 rw[e5] at b5
 obtain⟨b5,b5'⟩:=b5
 obtain⟨z,ez⟩:=nm_ (xs.getD 12 0)
 have bz:=hx.2.1.getD 12
 rw[ez] at bz
 obtain⟨bz0,bz1⟩:=bz
 have hP:=fun(Y:Int) (hY:(0≤p∧p<50→Y=2000+p)∧(50≤p→Y=1900+p))=>plain23 hl e0 e1 e2 e3 e4 e5 ez (Y:=Y) hY
 unfold TimeIs
 obtain⟨N,hN⟩:=nm_ (timeN 23 xs)
 obtain⟨E,hE⟩:=nm_ (timeE 23 xs)
 rw[hN,hE]
 simp only[hN,hE] at hP
 clear hN hE
 have HQ0:=hd_ e0
 have hv0:dig2 ((xs.drop 2).getD 0 0) ((xs.drop 2).getD (0+1) 0)=m:=by rw[getD_drop' xs 2 0 2 rfl,getD_drop' xs 2 (0+1) 3 rfl];exact e1
 have HV0:=hd_ hv0
 have hv1:dig2 ((xs.drop 2).getD 2 0) ((xs.drop 2).getD (2+1) 0)=d:=by rw[getD_drop' xs 2 2 4 rfl,getD_drop' xs 2 (2+1) 5 rfl];exact e2
 have HV1:=hd_ hv1
 have hv2:dig2 ((xs.drop 2).getD 4 0) ((xs.drop 2).getD (4+1) 0)=h:=by rw[getD_drop' xs 2 4 6 rfl,getD_drop' xs 2 (4+1) 7 rfl];exact e3
 have HV2:=hd_ hv2
 have hv3:dig2 ((xs.drop 2).getD 6 0) ((xs.drop 2).getD (6+1) 0)=n:=by rw[getD_drop' xs 2 6 8 rfl,getD_drop' xs 2 (6+1) 9 rfl];exact e4
 have HV3:=hd_ hv3
 have hv4:dig2 ((xs.drop 2).getD 8 0) ((xs.drop 2).getD (8+1) 0)=s:=by rw[getD_drop' xs 2 8 10 rfl,getD_drop' xs 2 (8+1) 11 rfl];exact e5
 have HV4:=hd_ hv4
 have hvz:(xs.drop 2).getD 10 0=z:=by rw[getD_drop' xs 2 10 12 rfl];exact ez
 have HVZ:=hd_ hvz
 have hcut:=hx.cut (k:=2) (cap:=cap) (by omega) hc
 rw[if_neg (by omega)] at hcut
 obtain⟨b,off,rfl,hblt,hcells⟩:=hx.2.2 (by omega)
 have hc2: ¬(cap=2):=by omega
 rw[e0] at hco
 clear hcells hblt ez e0 e1 e2 e3 e4 e5 hv0 hv1 hv2 hv3 hv4 hvz
 have HL:True:=trivial
 have HM:True:=trivial
 go_enter Tryz.func154,Tryz.ntmps154
 go_wp2_with fail
 refine(number_at _ _ _ _ 0 p _ _ (by rfl) hx (by omega) (by omega) HQ0.out).mono ?_
 rintro e wp ⟨rfl,hB⟩
 clear HQ0 hx
 have j0: ¬p<0:=by omega
 have j1: ¬p<50:=by omega
 have HP:=hd_ (hP (1900+p) ⟨fun _=>by omega,fun _=>rfl⟩)
 clear hP
 go_wp2_with fail
 refine(number_at _ _ _ _ 0 m _ _ (by rfl) (hcut.below hB) (by omega) (by omega) HV0.out).mono ?_
 rintro e wn0 ⟨rfl,hbn⟩
 have hB':=then_ hB hbn
 clear hB hbn
 have hB:=hB'
 clear hB'
 go_wp2_with fail
 refine(number_at _ _ _ _ 2 d _ _ (by rfl) (hcut.below hB) (by omega) (by omega) HV1.out).mono ?_
 rintro e wn1 ⟨rfl,hbn⟩
 have hB':=then_ hB hbn
 clear hB hbn
 have hB:=hB'
 clear hB'
 go_wp2_with fail
 refine(number_at _ _ _ _ 4 h _ _ (by rfl) (hcut.below hB) (by omega) (by omega) HV2.out).mono ?_
 rintro e wn2 ⟨rfl,hbn⟩
 have hB':=then_ hB hbn
 clear hB hbn
 have hB:=hB'
 clear hB'
 go_wp2_with fail
 refine(number_at _ _ _ _ 6 n _ _ (by rfl) (hcut.below hB) (by omega) (by omega) HV3.out).mono ?_
 rintro e wn3 ⟨rfl,hbn⟩
 have hB':=then_ hB hbn
 clear hB hbn
 have hB:=hB'
 clear hB'
 go_wp2_with fail
 refine(number_at _ _ _ _ 8 s _ _ (by rfl) (hcut.below hB) (by omega) (by omega) HV4.out).mono ?_
 rintro e wn4 ⟨rfl,hbn⟩
 have hB':=then_ hB hbn
 clear hB hbn
 have hB:=hB'
 clear hB'
 have hz:=(hcut.below hB).2.2 (by omega)
 obtain⟨b2,off2,hA2,hblt2,hcells2⟩:=hz
 cases hA2
 have hz:=hcells2 10 (by omega)
 rw[HVZ.out] at hz
 clear hcells2 hblt2 hcut HV0 HV1 HV2 HV3 HV4 HVZ
 by_cases k0:z=90
 ·subst k0
  by_cases k1:m<1
  ·obtain⟨rfl,rfl⟩:=HP.out.2 (fun q=>by obtain⟨_,_,⟨_,_⟩,_,⟨_,_⟩,⟨_,_⟩,⟨_,_⟩,_⟩:=q;omega)
   clear HP HL HM
   go_wp2
   go_ret2
   exact⟨rfl,hB⟩
  ·by_cases k2:12<m
   ·obtain⟨rfl,rfl⟩:=HP.out.2 (fun q=>by obtain⟨_,_,⟨_,_⟩,_,⟨_,_⟩,⟨_,_⟩,⟨_,_⟩,_⟩:=q;omega)
    clear HP HL HM
    go_wp2
    go_ret2
    exact⟨rfl,hB⟩
   ·by_cases k3:d<1
    ·obtain⟨rfl,rfl⟩:=HP.out.2 (fun q=>by obtain⟨_,_,⟨_,_⟩,_,⟨_,_⟩,⟨_,_⟩,⟨_,_⟩,_⟩:=q;omega)
     clear HP HL HM
     go_wp2
     go_ret2
     exact⟨rfl,hB⟩
    ·by_cases k4:h<0
     ·obtain⟨rfl,rfl⟩:=HP.out.2 (fun q=>by obtain⟨_,_,⟨_,_⟩,_,⟨_,_⟩,⟨_,_⟩,⟨_,_⟩,_⟩:=q;omega)
      clear HP HL HM
      go_wp2
      go_ret2
      exact⟨rfl,hB⟩
     ·by_cases k5:23<h
      ·obtain⟨rfl,rfl⟩:=HP.out.2 (fun q=>by obtain⟨_,_,⟨_,_⟩,_,⟨_,_⟩,⟨_,_⟩,⟨_,_⟩,_⟩:=q;omega)
       clear HP HL HM
       go_wp2
       go_ret2
       exact⟨rfl,hB⟩
      ·by_cases k6:n<0
       ·obtain⟨rfl,rfl⟩:=HP.out.2 (fun q=>by obtain⟨_,_,⟨_,_⟩,_,⟨_,_⟩,⟨_,_⟩,⟨_,_⟩,_⟩:=q;omega)
        clear HP HL HM
        go_wp2
        go_ret2
        exact⟨rfl,hB⟩
       ·by_cases k7:59<n
        ·obtain⟨rfl,rfl⟩:=HP.out.2 (fun q=>by obtain⟨_,_,⟨_,_⟩,_,⟨_,_⟩,⟨_,_⟩,⟨_,_⟩,_⟩:=q;omega)
         clear HP HL HM
         go_wp2
         go_ret2
         exact⟨rfl,hB⟩
        ·by_cases k8:s<0
         ·obtain⟨rfl,rfl⟩:=HP.out.2 (fun q=>by obtain⟨_,_,⟨_,_⟩,_,⟨_,_⟩,⟨_,_⟩,⟨_,_⟩,_⟩:=q;omega)
          clear HP HL HM
          go_wp2
          go_ret2
          exact⟨rfl,hB⟩
         ·by_cases k9:59<s
          ·obtain⟨rfl,rfl⟩:=HP.out.2 (fun q=>by obtain⟨_,_,⟨_,_⟩,_,⟨_,_⟩,⟨_,_⟩,⟨_,_⟩,_⟩:=q;omega)
           clear HP HL HM
           go_wp2
           go_ret2
           exact⟨rfl,hB⟩
          ·obtain⟨M,hM⟩:=nm_ (mon (lp (1900+p)) (m - 1).toNat)
           obtain⟨L,hL⟩:=nm_ (lp (1900+p))
           have hl01:=lp_01 (y:=(1900+p)) (by omega)
           rw[hL] at hM hl01
           obtain⟨hl0,hl1⟩:=hl01
           have hMb:=mon_bd hl0 hl1 (m - 1).toNat
           rw[hM] at hMb
           obtain⟨hMb0,hMb1⟩:=hMb
           have HL2:=hd_ hL
           have HM2:=hd_ hM
           clear hL hM HL HM
           go_wp2_with fail
           refine(month_at _ _ (m - 1).toNat M _ (by omega) (by omega) (by omega) (by omega) (by rw[HL2.out];exact HM2.out)).mono ?_
           rintro e wq ⟨rfl,hbn⟩
           have hB':=then_ hB hbn
           clear hB hbn hz
           have hB:=hB'
           clear hB'
           by_cases km:M<d
           ·obtain⟨rfl,rfl⟩:=HP.out.2 (fun q=>by
             obtain⟨_,_,⟨_,_⟩,_,⟨_,_⟩,⟨_,_⟩,⟨_,_⟩,q⟩:=q
             rw[HL2.out,HM2.out] at q
             omega)
            clear HP HL2 HM2
            go_wp2
            go_ret2
            exact⟨rfl,hB⟩
           ·have hok:=HP.out.1 (by omega) ⟨by first |exact k0 |rfl,⟨by omega,by omega⟩,by omega,⟨by omega,by omega⟩,⟨by omega,by omega⟩,⟨by omega,by omega⟩,by rw[HL2.out,HM2.out];omega⟩
            obtain⟨rfl,rfl⟩:=hok
            have hdb:=dto_bd (y:=(1900+p)) (by omega) (by omega)
            obtain⟨hdb0,hdb1⟩:=hdb
            have hsec: ∀k:Nat,(k:Int)+1=m→(dto (1900+p) - 7305+d - 1+cum L k)*86400+ (3600*h+60*n+s)=secAt (1900+p) m d h n s:=fun k hk=>by
             have hix:mIx m=k:=by unfold mIx;omega
             unfold secAt daysAt
             rw[hix,HL2.out]
             omega
            have HS:=hd_ hsec
            clear HP HM2 hsec
            go_wp2_with fail
            refine(days_any _ _ (by omega) (by omega)).mono ?_
            rintro e w' ⟨rfl,rfl⟩
            obtain⟨DY,hDY⟩:=nm_ (dto (1900+p))
            rw[hDY] at hdb0 hdb1 HS⊢
            clear hDY
            go_wp2_with fail
            go_outline
            go_loopw [16,17] (fun t16 t17 wr=>∃k:Nat,k<12∧(k:Int)+1≤m∧t16=.int .i64 (DY - 7305+d - 1+cum L k)∧t17=.int .i64 ((k:Int)+1)∧Below w.heap.size w wr) (fun _ t17 _=>13 - (intOf t17).toNat)
            case atStart=>exact⟨0,by omega,by omega,by simp[cum],rfl,hB⟩
            case round=>
             obtain⟨k,hk,hkm,rfl,rfl,hbw⟩:=hrel
             have hcs:=cum_step L hk
             have hcb:=cum_bd hl0 hl1 k
             have hmbd:=mon_bd hl0 hl1 k
             obtain⟨hcb0,hcb1⟩:=hcb
             obtain⟨hmbd0,hmbd1⟩:=hmbd
             by_cases hc:(k:Int)+1<m
             ·have hk11:k+1<12:=by omega
              obtain⟨CK,hCK⟩:=nm_ (cum L k)
              obtain⟨MK,hMK⟩:=nm_ (mon L k)
              rw[hCK] at hcs hcb0 hcb1⊢
              rw[hMK] at hcs hmbd0 hmbd1
              have HCS:=hd_ hcs
              have HMK:=hd_ hMK
              clear hcs hMK hCK
              go_wp2_with fail
              refine(month_at _ _ k MK _ (by omega) (by omega) hk rfl (by rw[HL2.out];exact HMK.out)).mono ?_
              rintro e w1 ⟨rfl,hbm⟩
              have hbw1:=then_ hbw hbm
              clear hbw hbm
              go_wp2_with fail
              go_round
              case rel=>exact⟨k+1,by omega,by omega,by rw[HCS.out];exact congrArg (Value.int .i64) (by omega),by simp,hbw1⟩
              case measure=>simp[intOf];omega
             ·have hkm2:(k:Int)+1=m:=by omega
              have hs:=HS.out k hkm2
              obtain⟨CK,hCK⟩:=nm_ (cum L k)
              rw[hCK] at hs hcb0 hcb1⊢
              have HS2:=hd_ hs
              clear hcs hCK HS hs
              go_wp2
              go_ret2
              exact⟨two_ret (by rw[←HS2.out]),hbw⟩
 ·have k0':(z==90)=false:=by simpa using k0
  obtain⟨rfl,rfl⟩:=HP.out.2 (fun q=>by obtain⟨_,_,⟨_,_⟩,_,⟨_,_⟩,⟨_,_⟩,⟨_,_⟩,_⟩:=q;exact k0 (by assumption))
  clear HP HL HM
  go_wp2
  go_ret2
  exact⟨rfl,hB⟩
end Go.Proofs.YtkjkhoglkpepiaaGreatDoor.txc
namespace Go.Proofs.YtkjkhoglkpepiaaGreatDoor.txc
open Go.RowKit txm tlvc
theorem refTime_24 (A:Option Addr)(cap:Nat)(xs:List Int)(w:World)(hx:Bys w A 15 xs)(hc:15≤cap)(hm:cap≤9223372036854775807):
 Calls Tryz.prog 154 #[.int .u8 24,.slice A 15 cap] w (TimeIs 24 xs w):=by
 have hl:xs.length=15:=hx.1
 obtain⟨p,e0⟩:=nm_ (dig2 (xs.getD 0 0) (xs.getD 1 0))
 have b0:=dig2_bd (xs.getD 0 0) (xs.getD 1 0)
 rw[e0] at b0
 obtain⟨b0,b0'⟩:=b0
 obtain⟨q,e1⟩:=nm_ (dig2 (xs.getD 2 0) (xs.getD 3 0))
 have b1:=dig2_bd (xs.getD 2 0) (xs.getD 3 0)
 rw[e1] at b1
 obtain⟨b1,b1'⟩:=b1
 obtain⟨m,e2⟩:=nm_ (dig2 (xs.getD 4 0) (xs.getD 5 0))
 have b2:=dig2_bd (xs.getD 4 0) (xs.getD 5 0)
 rw[e2] at b2
 obtain⟨b2,b2'⟩:=b2
 obtain⟨d,e3⟩:=nm_ (dig2 (xs.getD 6 0) (xs.getD 7 0))
 have b3:=dig2_bd (xs.getD 6 0) (xs.getD 7 0)
 rw[e3] at b3
 obtain⟨b3,b3'⟩:=b3
 obtain⟨h,e4⟩:=nm_ (dig2 (xs.getD 8 0) (xs.getD 9 0))
 have b4:=dig2_bd (xs.getD 8 0) (xs.getD 9 0)
 rw[e4] at b4
 obtain⟨b4,b4'⟩:=b4
 obtain⟨n,e5⟩:=nm_ (dig2 (xs.getD 10 0) (xs.getD 11 0))
 have b5:=dig2_bd (xs.getD 10 0) (xs.getD 11 0)
 rw[e5] at b5
 obtain⟨b5,b5'⟩:=b5
 obtain⟨s,e6⟩:=nm_ (dig2 (xs.getD 12 0) (xs.getD 13 0))
 have b6:=dig2_bd (xs.getD 12 0) (xs.getD 13 0)
 rw[e6] at b6
 obtain⟨b6,b6'⟩:=b6
 obtain⟨z,ez⟩:=nm_ (xs.getD 14 0)
 have bz:=hx.2.1.getD 14
 rw[ez] at bz
 obtain⟨bz0,bz1⟩:=bz
 have hP:=plain24 hl e0 e1 e2 e3 e4 e5 e6 ez
 unfold TimeIs
 obtain⟨N,hN⟩:=nm_ (timeN 24 xs)
 obtain⟨E,hE⟩:=nm_ (timeE 24 xs)
 rw[hN,hE] at hP
 rw[hN,hE]
 clear hN hE
 have HQ0:=hd_ e0
 have HQ1:=hd_ e1
 have hv0:dig2 ((xs.drop 4).getD 0 0) ((xs.drop 4).getD (0+1) 0)=m:=by rw[getD_drop' xs 4 0 4 rfl,getD_drop' xs 4 (0+1) 5 rfl];exact e2
 have HV0:=hd_ hv0
 have hv1:dig2 ((xs.drop 4).getD 2 0) ((xs.drop 4).getD (2+1) 0)=d:=by rw[getD_drop' xs 4 2 6 rfl,getD_drop' xs 4 (2+1) 7 rfl];exact e3
 have HV1:=hd_ hv1
 have hv2:dig2 ((xs.drop 4).getD 4 0) ((xs.drop 4).getD (4+1) 0)=h:=by rw[getD_drop' xs 4 4 8 rfl,getD_drop' xs 4 (4+1) 9 rfl];exact e4
 have HV2:=hd_ hv2
 have hv3:dig2 ((xs.drop 4).getD 6 0) ((xs.drop 4).getD (6+1) 0)=n:=by rw[getD_drop' xs 4 6 10 rfl,getD_drop' xs 4 (6+1) 11 rfl];exact e5
 have HV3:=hd_ hv3
 have hv4:dig2 ((xs.drop 4).getD 8 0) ((xs.drop 4).getD (8+1) 0)=s:=by rw[getD_drop' xs 4 8 12 rfl,getD_drop' xs 4 (8+1) 13 rfl];exact e6
 have HV4:=hd_ hv4
 have hvz:(xs.drop 4).getD 10 0=z:=by rw[getD_drop' xs 4 10 14 rfl];exact ez
 have HVZ:=hd_ hvz
 have hcut:=hx.cut (k:=4) (cap:=cap) (by omega) hc
 rw[if_neg (by omega)] at hcut
 obtain⟨b,off,rfl,hblt,hcells⟩:=hx.2.2 (by omega)
 have hc2: ¬(cap=4):=by omega
 clear hcells hblt ez e0 e1 e2 e3 e4 e5 e6 hv0 hv1 hv2 hv3 hv4 hvz
 have HL:True:=trivial
 have HM:True:=trivial
 go_enter Tryz.func154,Tryz.ntmps154
 go_wp2_with fail
 refine(number_at _ _ _ _ 0 p _ _ (by rfl) hx (by omega) (by omega) HQ0.out).mono ?_
 rintro e wp ⟨rfl,hB⟩
 go_wp2_with fail
 refine(number_at _ _ _ _ 2 q _ _ (by rfl) (hx.below hB) (by omega) (by omega) HQ1.out).mono ?_
 rintro e wq0 ⟨rfl,hbn⟩
 have hB':=then_ hB hbn
 clear hB hbn
 have hB:=hB'
 clear hB'
 clear HQ0 HQ1 hx
 have HP:=hd_ hP
 clear hP
 by_cases j0:p<0
 ·obtain⟨rfl,rfl⟩:=HP.out.2 (fun q=>by obtain⟨⟨_,_,_⟩,_⟩:=q;omega)
  clear HP HL HM
  go_wp2
  go_ret2
  exact⟨rfl,hB⟩
 ·by_cases j1:q<0
  ·obtain⟨rfl,rfl⟩:=HP.out.2 (fun q=>by obtain⟨⟨_,_,_⟩,_⟩:=q;omega)
   clear HP HL HM
   go_wp2
   go_ret2
   exact⟨rfl,hB⟩
  ·by_cases j2:100*p+q<2050
   ·obtain⟨rfl,rfl⟩:=HP.out.2 (fun q=>by obtain⟨⟨_,_,_⟩,_⟩:=q;omega)
    clear HP HL HM
    go_wp2
    go_ret2
    exact⟨rfl,hB⟩
   ·go_wp2_with fail
    refine(number_at _ _ _ _ 0 m _ _ (by rfl) (hcut.below hB) (by omega) (by omega) HV0.out).mono ?_
    rintro e wn0 ⟨rfl,hbn⟩
    have hB':=then_ hB hbn
    clear hB hbn
    have hB:=hB'
    clear hB'
    go_wp2_with fail
    refine(number_at _ _ _ _ 2 d _ _ (by rfl) (hcut.below hB) (by omega) (by omega) HV1.out).mono ?_
    rintro e wn1 ⟨rfl,hbn⟩
    have hB':=then_ hB hbn
    clear hB hbn
    have hB:=hB'
    clear hB'
    go_wp2_with fail
    refine(number_at _ _ _ _ 4 h _ _ (by rfl) (hcut.below hB) (by omega) (by omega) HV2.out).mono ?_
    rintro e wn2 ⟨rfl,hbn⟩
    have hB':=then_ hB hbn
    clear hB hbn
    have hB:=hB'
    clear hB'
    go_wp2_with fail
    refine(number_at _ _ _ _ 6 n _ _ (by rfl) (hcut.below hB) (by omega) (by omega) HV3.out).mono ?_
    rintro e wn3 ⟨rfl,hbn⟩
    have hB':=then_ hB hbn
    clear hB hbn
    have hB:=hB'
    clear hB'
    go_wp2_with fail
    refine(number_at _ _ _ _ 8 s _ _ (by rfl) (hcut.below hB) (by omega) (by omega) HV4.out).mono ?_
    rintro e wn4 ⟨rfl,hbn⟩
    have hB':=then_ hB hbn
    clear hB hbn
    have hB:=hB'
    clear hB'
    have hz:=(hcut.below hB).2.2 (by omega)
    obtain⟨b2,off2,hA2,hblt2,hcells2⟩:=hz
    cases hA2
    have hz:=hcells2 10 (by omega)
    rw[HVZ.out] at hz
    clear hcells2 hblt2 hcut HV0 HV1 HV2 HV3 HV4 HVZ
    by_cases k0:z=90
    ·subst k0
     by_cases k1:m<1
     ·obtain⟨rfl,rfl⟩:=HP.out.2 (fun q=>by obtain⟨_,_,⟨_,_⟩,_,⟨_,_⟩,⟨_,_⟩,⟨_,_⟩,_⟩:=q;omega)
      clear HP HL HM
      go_wp2
      go_ret2
      exact⟨rfl,hB⟩
     ·by_cases k2:12<m
      ·obtain⟨rfl,rfl⟩:=HP.out.2 (fun q=>by obtain⟨_,_,⟨_,_⟩,_,⟨_,_⟩,⟨_,_⟩,⟨_,_⟩,_⟩:=q;omega)
       clear HP HL HM
       go_wp2
       go_ret2
       exact⟨rfl,hB⟩
      ·by_cases k3:d<1
       ·obtain⟨rfl,rfl⟩:=HP.out.2 (fun q=>by obtain⟨_,_,⟨_,_⟩,_,⟨_,_⟩,⟨_,_⟩,⟨_,_⟩,_⟩:=q;omega)
        clear HP HL HM
        go_wp2
        go_ret2
        exact⟨rfl,hB⟩
       ·by_cases k4:h<0
        ·obtain⟨rfl,rfl⟩:=HP.out.2 (fun q=>by obtain⟨_,_,⟨_,_⟩,_,⟨_,_⟩,⟨_,_⟩,⟨_,_⟩,_⟩:=q;omega)
         clear HP HL HM
         go_wp2
         go_ret2
         exact⟨rfl,hB⟩
        ·by_cases k5:23<h
         ·obtain⟨rfl,rfl⟩:=HP.out.2 (fun q=>by obtain⟨_,_,⟨_,_⟩,_,⟨_,_⟩,⟨_,_⟩,⟨_,_⟩,_⟩:=q;omega)
          clear HP HL HM
          go_wp2
          go_ret2
          exact⟨rfl,hB⟩
         ·by_cases k6:n<0
          ·obtain⟨rfl,rfl⟩:=HP.out.2 (fun q=>by obtain⟨_,_,⟨_,_⟩,_,⟨_,_⟩,⟨_,_⟩,⟨_,_⟩,_⟩:=q;omega)
           clear HP HL HM
           go_wp2
           go_ret2
           exact⟨rfl,hB⟩
          ·by_cases k7:59<n
           ·obtain⟨rfl,rfl⟩:=HP.out.2 (fun q=>by obtain⟨_,_,⟨_,_⟩,_,⟨_,_⟩,⟨_,_⟩,⟨_,_⟩,_⟩:=q;omega)
            clear HP HL HM
            go_wp2
            go_ret2
            exact⟨rfl,hB⟩
           ·by_cases k8:s<0
            ·obtain⟨rfl,rfl⟩:=HP.out.2 (fun q=>by obtain⟨_,_,⟨_,_⟩,_,⟨_,_⟩,⟨_,_⟩,⟨_,_⟩,_⟩:=q;omega)
             clear HP HL HM
             go_wp2
             go_ret2
             exact⟨rfl,hB⟩
            ·by_cases k9:59<s
             ·obtain⟨rfl,rfl⟩:=HP.out.2 (fun q=>by obtain⟨_,_,⟨_,_⟩,_,⟨_,_⟩,⟨_,_⟩,⟨_,_⟩,_⟩:=q;omega)
              clear HP HL HM
              go_wp2
              go_ret2
              exact⟨rfl,hB⟩
             ·obtain⟨M,hM⟩:=nm_ (mon (lp (100*p+q)) (m - 1).toNat)
              obtain⟨L,hL⟩:=nm_ (lp (100*p+q))
              have hl01:=lp_01 (y:=(100*p+q)) (by omega)
              rw[hL] at hM hl01
              obtain⟨hl0,hl1⟩:=hl01
              have hMb:=mon_bd hl0 hl1 (m - 1).toNat
              rw[hM] at hMb
              obtain⟨hMb0,hMb1⟩:=hMb
              have HL2:=hd_ hL
              have HM2:=hd_ hM
              clear hL hM HL HM
              go_wp2_with fail
              refine(month_at _ _ (m - 1).toNat M _ (by omega) (by omega) (by omega) (by omega) (by rw[HL2.out];exact HM2.out)).mono ?_
              rintro e wq ⟨rfl,hbn⟩
              have hB':=then_ hB hbn
              clear hB hbn hz
              have hB:=hB'
              clear hB'
              by_cases km:M<d
              ·obtain⟨rfl,rfl⟩:=HP.out.2 (fun q=>by
                obtain⟨_,_,⟨_,_⟩,_,⟨_,_⟩,⟨_,_⟩,⟨_,_⟩,q⟩:=q
                rw[HL2.out,HM2.out] at q
                omega)
               clear HP HL2 HM2
               go_wp2
               go_ret2
               exact⟨rfl,hB⟩
              ·have hok:=HP.out.1 ⟨by omega,by omega,by omega⟩ ⟨by first |exact k0 |rfl,⟨by omega,by omega⟩,by omega,⟨by omega,by omega⟩,⟨by omega,by omega⟩,⟨by omega,by omega⟩,by rw[HL2.out,HM2.out];omega⟩
               obtain⟨rfl,rfl⟩:=hok
               have hdb:=dto_bd (y:=(100*p+q)) (by omega) (by omega)
               obtain⟨hdb0,hdb1⟩:=hdb
               have hsec: ∀k:Nat,(k:Int)+1=m→(dto (100*p+q) - 7305+d - 1+cum L k)*86400+ (3600*h+60*n+s)=secAt (100*p+q) m d h n s:=fun k hk=>by
                have hix:mIx m=k:=by unfold mIx;omega
                unfold secAt daysAt
                rw[hix,HL2.out]
                omega
               have HS:=hd_ hsec
               clear HP HM2 hsec
               go_wp2_with fail
               refine(days_any _ _ (by omega) (by omega)).mono ?_
               rintro e w' ⟨rfl,rfl⟩
               obtain⟨DY,hDY⟩:=nm_ (dto (100*p+q))
               rw[hDY] at hdb0 hdb1 HS⊢
               clear hDY
               go_wp2_with fail
               go_outline
               go_loopw [16,17] (fun t16 t17 wr=>∃k:Nat,k<12∧(k:Int)+1≤m∧t16=.int .i64 (DY - 7305+d - 1+cum L k)∧t17=.int .i64 ((k:Int)+1)∧Below w.heap.size w wr) (fun _ t17 _=>13 - (intOf t17).toNat)
               case atStart=>exact⟨0,by omega,by omega,by simp[cum],rfl,hB⟩
               case round=>
                obtain⟨k,hk,hkm,rfl,rfl,hbw⟩:=hrel
                have hcs:=cum_step L hk
                have hcb:=cum_bd hl0 hl1 k
                have hmbd:=mon_bd hl0 hl1 k
                obtain⟨hcb0,hcb1⟩:=hcb
                obtain⟨hmbd0,hmbd1⟩:=hmbd
                by_cases hc:(k:Int)+1<m
                ·have hk11:k+1<12:=by omega
                 obtain⟨CK,hCK⟩:=nm_ (cum L k)
                 obtain⟨MK,hMK⟩:=nm_ (mon L k)
                 rw[hCK] at hcs hcb0 hcb1⊢
                 rw[hMK] at hcs hmbd0 hmbd1
                 have HCS:=hd_ hcs
                 have HMK:=hd_ hMK
                 clear hcs hMK hCK
                 go_wp2_with fail
                 refine(month_at _ _ k MK _ (by omega) (by omega) hk rfl (by rw[HL2.out];exact HMK.out)).mono ?_
                 rintro e w1 ⟨rfl,hbm⟩
                 have hbw1:=then_ hbw hbm
                 clear hbw hbm
                 go_wp2_with fail
                 go_round
                 case rel=>exact⟨k+1,by omega,by omega,by rw[HCS.out];exact congrArg (Value.int .i64) (by omega),by simp,hbw1⟩
                 case measure=>simp[intOf];omega
                ·have hkm2:(k:Int)+1=m:=by omega
                 have hs:=HS.out k hkm2
                 obtain⟨CK,hCK⟩:=nm_ (cum L k)
                 rw[hCK] at hs hcb0 hcb1⊢
                 have HS2:=hd_ hs
                 clear hcs hCK HS hs
                 go_wp2
                 go_ret2
                 exact⟨two_ret (by rw[←HS2.out]),hbw⟩
    ·have k0':(z==90)=false:=by simpa using k0
     obtain⟨rfl,rfl⟩:=HP.out.2 (fun q=>by obtain⟨_,_,⟨_,_⟩,_,⟨_,_⟩,⟨_,_⟩,⟨_,_⟩,_⟩:=q;exact k0 (by assumption))
     clear HP HL HM
     go_wp2
     go_ret2
     exact⟨rfl,hB⟩
end Go.Proofs.YtkjkhoglkpepiaaGreatDoor.txc
namespace Go.Proofs.YtkjkhoglkpepiaaGreatDoor.txc
open Go.RowKit txm tlvc
theorem refTime_any (t:Int)(A:Option Addr)(n cap:Nat)(xs:List Int)(w:World)(hx:Bys w A n xs)(hc:n≤cap)(hm:cap≤9223372036854775807):
 Calls Tryz.prog 154 #[.int .u8 t,.slice A n cap] w (TimeIs t xs w):=by
 obtain rfl:xs.length=n:=hx.1
 by_cases h1:t=23∧xs.length=13
 ·obtain⟨rfl,hl⟩:=h1
  rw[hl] at hx hc⊢
  rcases Int.lt_or_le (dig2 (xs.getD 0 0) (xs.getD 1 0)) 50 with h |h
  ·exact refTime_23a A cap xs w hx hc hm h
  ·exact refTime_23b A cap xs w hx hc hm h
 ·by_cases h2:t=24∧xs.length=15
  ·obtain⟨rfl,hl⟩:=h2
   rw[hl] at hx hc⊢
   exact refTime_24 A cap xs w hx hc hm
  ·exact refTime_else t A cap xs w h1 h2 (by omega)
end Go.Proofs.YtkjkhoglkpepiaaGreatDoor.txc
