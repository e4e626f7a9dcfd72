/- Plain facts on masks' bodies; math/bits: Reverse8 and Len16. The program's Bits. A mask's body, by the document. The docu -/
import Derived.Test.YtjanfogifehhmaaGreatDoorIc
import Derived.Lib.BitFns
import Derived.Lib.Walk
import Derived.Lib.Small
import Derived.Test.YtjanfogifehhmaaGreatDoorIb
import Derived.Lib.EndianBits
import Derived.StillTailTactics
import Derived.Deep.RegionWith
set_option maxRecDepth 100000
set_option maxHeartbeats 4000000
set_option linter.unusedVariables false
set_option linter.unusedSimpArgs false
namespace Go.Proofs.YtjanfogifehhmaaGreatDoor.intm
open Go.RowKit
def rv (x:Int):Int:=x%2*128+x/ 2%2*64+x/ 4%2*32+x/ 8%2*16+x/ 16%2*8+x/ 32%2*4+x/ 64%2*2+x/ 128%2
theorem rv_bd (x:Int):0≤rv x∧rv x≤255:=by unfold rv;omega
theorem byte_of {p:Int→Prop}(key: ∀k:Fin 256,p (k.val:Int)){x:Int}(h0:0≤x)(h:x≤255):p x:=by
 obtain⟨k,rfl⟩:=Int.eq_ofNat_of_zero_le h0
 exact key ⟨k,by omega⟩
theorem rv_rv {x:Int}(h0:0≤x)(h:x≤255):rv (rv x)=x:=byte_of (p:=fun x=>rv (rv x)=x) (by decide+kernel) h0 h
def lenB (x:Int):Int:=
 if x<1 then 0 else if x<2 then 1 else if x<4 then 2 else if x<8 then 3 else if x<16 then 4 else if x<32 then 5 else if x<64 then 6 else if x<128 then 7 else 8
def len16 (m:Int):Int:=if m<256 then lenB m else 8+lenB (m/ 256)
theorem lenB_bd {x:Int}(h:1≤x):1≤lenB x∧lenB x≤8:=by
 unfold lenB;repeat' split
 all_goals omega
def U16 (m:Int):Prop:=0≤m∧m≤65535
def putM (m:Int):List Int:=
 if m=0 then [0] else if m<256 then [8 - lenB m,rv m] else [8 - lenB (m/ 256),rv (m%256),rv (m/ 256)]
theorem putM_bytes (m:Int)(h:U16 m): ∀x∈putM m,0≤x∧x≤255:=by
 unfold U16 at h
 intro x hx
 unfold putM at hx
 split at hx
 ·simp at hx;omega
 ·split at hx
  ·have:=lenB_bd (x:=m) (by omega)
   have:=rv_bd m
   simp at hx;omega
  ·have:=lenB_bd (x:=m/ 256) (by omega)
   have:=rv_bd (m%256)
   have:=rv_bd (m/ 256)
   simp at hx;omega
theorem putM_length (m:Int):1≤(putM m).length∧(putM m).length≤3:=by
 unfold putM
 split
 ·simp
 ·split<;>simp
def maskF:List Int→Int
 |_::b::c::_=>rv b+256*rv c
 |_::b::_=>rv b
 |_=>0
theorem maskF_u16 (xs:List Int):U16 (maskF xs):=by
 unfold U16
 match xs with
 | []=>simp[maskF]
 | [_]=>simp[maskF]
 | [_,b]=>have:=rv_bd b;simp[maskF];omega
 |_::b::c::_=>have:=rv_bd b;have:=rv_bd c;simp[maskF];omega
theorem maskF_putM {m:Int}(h:U16 m):maskF (putM m)=m:=by
 unfold U16 at h
 unfold putM
 split
 ·rename_i e;rw[e];rfl
 ·split
  ·exact rv_rv (by omega) (by omega)
  ·show rv (rv (m%256))+256*rv (rv (m/ 256))=m
   rw[rv_rv (by omega) (by omega),rv_rv (by omega) (by omega)]
   omega
def bitsF (xs:List Int):Int × Int:=if putM (maskF (xs.take 3))=xs then (maskF (xs.take 3),0) else (0,24)
end Go.Proofs.YtjanfogifehhmaaGreatDoor.intm
namespace Go.Proofs.YtjanfogifehhmaaGreatDoor.intc
open Go.RowKit tlvc intm
theorem lib_rev8 {x:Int}(h0:0≤x)(h:x≤255):Lib.rev8 x=rv x:=byte_of (p:=fun x=>Lib.rev8 x=rv x) (by decide+kernel) h0 h
theorem lib_len8 {x:Int}(h0:0≤x)(h:x≤255):Lib.len8 x=lenB x:=byte_of (p:=fun x=>Lib.len8 x=lenB x) (by decide+kernel) h0 h
theorem rev8_any (x:Int)(w:World)(h0:0≤x)(h:x≤255):
 Calls Tryz.prog 206 #[.int .u8 x] w fun e w'=>e=.returned (.int .u8 (rv x))∧w=w':=by
 rw[←lib_rev8 h0 h]
 go_enter Tryz.func206,Tryz.ntmps206
 go_wp2
 go_ret
 exact⟨rfl,rfl⟩
theorem len16_any (x:Int)(w:World)(h0:0≤x)(h:x≤65535):
 Calls Tryz.prog 205 #[.int .u16 x] w fun e w'=>e=.returned (.int .i64 (len16 x))∧w=w':=by
 by_cases hx:x<256
 ·have e:len16 x=lenB x:=by unfold len16;rw[if_pos hx]
  have hl:=lib_len8 h0 (show x≤255 by omega)
  have hx1:x≤255:=by omega
  obtain⟨L,hL⟩:=nm_ (lenB x)
  have hb:0≤L∧L≤8:=by rw[←hL];unfold lenB;repeat' split
                      all_goals omega
  rw[hL] at hl
  rw[e,hL]
  clear e hL
  go_enter Tryz.func205,Tryz.ntmps205
  go_wp2
  go_ret
  exact⟨rfl,rfl⟩
 ·have e:len16 x=8+lenB (x/ 256):=by unfold len16;rw[if_neg hx]
  have hx0:0≤x/ 256:=by omega
  have hx1:x/ 256≤255:=by omega
  have hl:=lib_len8 hx0 hx1
  obtain⟨L,hL⟩:=nm_ (lenB (x/ 256))
  have hb:0≤L∧L≤8:=by rw[←hL];unfold lenB;repeat' split
                      all_goals omega
  rw[hL] at hl
  rw[e,hL]
  clear e hL
  go_enter Tryz.func205,Tryz.ntmps205
  go_wp2
  go_ret
  exact⟨rfl,rfl⟩
end Go.Proofs.YtjanfogifehhmaaGreatDoor.intc
namespace Go.Proofs.YtjanfogifehhmaaGreatDoor.intc
open Go.RowKit tlvc intm
theorem putM_zero:putM 0=[0]:=rfl
theorem putM_low {m:Int}(h1:1≤m)(h:m<256):putM m=[8 - lenB m,rv m]:=by unfold putM;rw[if_neg (by omega),if_pos h]
theorem putM_high {m:Int}(h:256≤m):putM m=[8 - lenB (m/ 256),rv (m%256),rv (m/ 256)]:=by unfold putM;rw[if_neg (by omega),if_neg (by omega)]
theorem putBits_any (m:Int)(w:World)(hm:U16 m):Calls Tryz.prog 147 #[.int .u16 m] w (Made w (putM m)):=by
 obtain⟨i0,hi0,hz0,hz1,hz2⟩:=info_parts Tryz.info5
 have hb:0≤m∧m≤65535:=hm
 by_cases h0:m=0
 ·subst h0
  rw[putM_zero]
  go_enter Tryz.func147,Tryz.ntmps147
  go_wp2
  go_ret
  exact⟨_,_,rfl,here_new rfl (fit_one (by decide) (by decide)) rfl (by unfold maxLen;decide),(br_ _ _).alloc (lr_ _) _⟩
 have h0':(m==0)=false:=by simpa using h0
 by_cases hlow:m<256
 ·rw[putM_low (by omega) hlow]
  have hL:=lenB_bd (x:=m) (by omega)
  have hl16:len16 m=lenB m:=by unfold len16;rw[if_pos hlow]
  obtain⟨L,hLL⟩: ∃L,lenB m=L+1:=⟨lenB m - 1,by omega⟩
  rw[hLL] at hL hl16⊢
  have e8:8 - (L+1)=7 - L:=by omega
  rw[e8]
  have h8:L%8=L:=by omega
  have h8':L/ 8=0:=by omega
  have hr:=rv_bd m
  have HL16:=hd_ hl16
  have hown:=own_one w (7 - L) (lr_ _)
  clear h0 hLL hl16 e8
  go_enter Tryz.func147,Tryz.ntmps147
  go_wp2_with fail
  refine(len16_any m _ hb.1 hb.2).mono ?_
  rw[HL16.out]
  rintro e w' ⟨rfl,rfl⟩
  go_wp2_with fail
  refine wp_loop_rounds 2 ?_
  rw[rounds_succ]
  go_wp2_with fail
  refine(rev8_any m _ hb.1 (by omega)).mono ?_
  rintro e w' ⟨rfl,rfl⟩
  go_wp2_with (at_builtin;refine wpl_app rfl (.tmp 23) (.tmp 30) 34 rfl w.heap.size 5 i0 (.int .u8 0) Tryz.underlying34 hi0 hz0 hz1 hz2 rfl (.slice (some ⟨w.heap.size,0,none⟩) 1 1) 1 (vals [7 - L]) rfl (hown.alloc _) _ 1 1 [rv m] rfl (bys_new rfl (fit_one hr.1 hr.2) rfl (by simp)) (by omega) (by simp;omega) ?_;intro v' w2 ho2 hg2)
  rw[rounds_succ]
  go_wp2
  go_ret
  have hf:Fit [7 - L,rv m]:=(fit_one (by omega) (by omega)).app (fit_one hr.1 hr.2)
  exact made_own (ys:=[7 - L,rv m]) ho2 hf ((((br_ _ _).alloc (lr_ _) _).alloc (by simp) _).grown hg2 (by simp;omega) fun j hj=>by cases hj;exact lr_ _)
 ·rw[putM_high (by omega)]
  have hL:=lenB_bd (x:=m/ 256) (by omega)
  have hl16:len16 m=8+lenB (m/ 256):=by unfold len16;rw[if_neg hlow]
  obtain⟨L,hLL⟩: ∃L,lenB (m/ 256)=L+1:=⟨lenB (m/ 256) - 1,by omega⟩
  rw[hLL] at hL hl16⊢
  have e8:8 - (L+1)=7 - L:=by omega
  have e9:8+ (L+1)=8+L+1:=by omega
  rw[e8]
  rw[e9] at hl16
  have h8:(8+L)%8=L:=by omega
  have h8':(8+L) / 8=1:=by omega
  have hr:=rv_bd (m%256)
  have hr2:=rv_bd (m/ 256)
  have HL16:=hd_ hl16
  have hown:=own_one w (7 - L) (lr_ _)
  clear h0 hLL hl16 e8 e9
  go_enter Tryz.func147,Tryz.ntmps147
  go_wp2_with fail
  refine(len16_any m _ hb.1 hb.2).mono ?_
  rw[HL16.out]
  rintro e w' ⟨rfl,rfl⟩
  go_wp2_with fail
  refine wp_loop_rounds 3 ?_
  rw[rounds_succ]
  go_wp2_with fail
  refine(rev8_any (m%256) _ (by omega) (by omega)).mono ?_
  rintro e w' ⟨rfl,rfl⟩
  go_wp2_with (at_builtin;refine wpl_app rfl (.tmp 23) (.tmp 30) 34 rfl w.heap.size 5 i0 (.int .u8 0) Tryz.underlying34 hi0 hz0 hz1 hz2 rfl (.slice (some ⟨w.heap.size,0,none⟩) 1 1) 1 (vals [7 - L]) rfl (hown.alloc _) _ 1 1 [rv (m%256)] rfl (bys_new rfl (fit_one hr.1 hr.2) rfl (by simp)) (by omega) (by simp;omega) ?_;intro v' w2 ho2 hg2)
  have hb2:Below w.heap.size w w2:=(((br_ _ _).alloc (lr_ _) _).alloc (by simp) _).grown hg2 (by simp;omega) fun j hj=>by cases hj;exact lr_ _
  clear hg2
  rw[rounds_succ]
  go_wp2_with fail
  refine(rev8_any (m/ 256) _ (by omega) (by omega)).mono ?_
  rintro e w' ⟨rfl,rfl⟩
  go_wp2_with (at_builtin;refine wpl_app rfl (.tmp 23) (.tmp 30) 34 rfl w.heap.size 5 i0 (.int .u8 0) Tryz.underlying34 hi0 hz0 hz1 hz2 rfl v' _ _ rfl (ho2.alloc _) _ 1 1 [rv (m/ 256)] rfl (bys_new rfl (fit_one hr2.1 hr2.2) rfl (by simp)) (by omega) (by have:=hb2.size;simp;omega) ?_;intro v'' w3 ho3 hg3)
  rw[rounds_succ]
  go_wp2
  go_ret
  have hf:Fit [7 - L,rv (m%256),rv (m/ 256)]:=(fit_one (by omega) (by omega)).app ((fit_one hr.1 hr.2).app (fit_one hr2.1 hr2.2))
  exact made_own (ys:=[7 - L,rv (m%256),rv (m/ 256)]) ho3 hf ((hb2.alloc hb2.size _).grown hg3 (by have:=hb2.size;simp;omega) fun j hj=>(ho2.lt j hj).1)
end Go.Proofs.YtjanfogifehhmaaGreatDoor.intc
set_option maxHeartbeats 1000000
set_option linter.unusedVariables false
set_option linter.unusedSimpArgs false
namespace Go.Proofs.YtjanfogifehhmaaGreatDoor.intc
open Go.RowKit tlvc intm
theorem sureBits_any (w:World):
 Calls Tryz.prog 209 #[.func (.func 147) #[] #[]] w fun e w'=>e=.returned (.func (.func 238) #[] #[.pointer (some ⟨w.heap.size,0,none⟩)])∧w'=w.alloc (.cells #[.func (.func 147) #[] #[]] 149):=by
 have hmf: ∀(fn:Fn) (first cap:Array Value) (w:World),(Instr.makeFunc fn first cap).run Tryz.prog w=.ok (.func fn first cap) w:=fun _ _ _ _=>rfl
 go_enter Tryz.func209,Tryz.ntmps209
 go_wp2
 go_ret
 exact⟨rfl,rfl⟩
theorem surelyBits_any (t:Int)(ht:U16 t)(p:Nat)(w:World)(hp:w.cell? ⟨p,0,none⟩=some (.func (.func 147) #[] #[])):
 Calls Tryz.prog 238 #[(.int .u16 t),.pointer (some ⟨p,0,none⟩)] w (Made2 w (putM t)):=by
 go_enter Tryz.func238,Tryz.ntmps238
 go_wp2_with fail
 refine(putBits_any _ _ ht).mono ?_
 rintro e w1 ⟨A,c,rfl,hh,hb⟩
 go_wp2_with fail
 go_ret2
 exact⟨A,c,rfl,hh,hb⟩
theorem asBits_yes (A:Option Addr)(n c:Nat)(xs:List Int)(t:Int)(ht:U16 t)(p:Nat)(q:Int)(w:World)(hb:Bys w A n xs)(hp:w.cell? ⟨p,0,none⟩=some (.func (.func 147) #[] #[]))(h:putM t=xs):
 Calls Tryz.prog 207 #[.slice A n c,(.int .u16 t),.int .i64 q,.func (.func 238) #[] #[.pointer (some ⟨p,0,none⟩)]] w fun e w'=>e=.returned (.tuple #[(.int .u16 t),.int .i64 0])∧Below w.heap.size w w':=by
 have hs:sameB (putM t) xs=true:=(sameB_iff (putM_bytes t ht) hb.fit).2 h
 have H:=hd_ h
 clear h
 go_enter Tryz.func207,Tryz.ntmps207
 go_wp2_with fail
 refine(surelyBits_any t ht p _ hp).mono ?_
 rintro e w1 ⟨A1,c1,rfl,hh,hbel⟩
 go_wp2_with fail
 refine(equal_any _ _ _ _ _ _ _ _ _ hh.1 (hb.below hbel)).mono ?_
 rw[hs]
 rintro e w2 ⟨rfl,rfl⟩
 go_wp2_with fail
 go_ret2
 exact⟨rfl,hbel⟩
theorem asBits_no (A:Option Addr)(n c:Nat)(xs:List Int)(t:Int)(ht:U16 t)(p:Nat)(q:Int)(w:World)(hb:Bys w A n xs)(hp:w.cell? ⟨p,0,none⟩=some (.func (.func 147) #[] #[]))(h: ¬putM t=xs):
 Calls Tryz.prog 207 #[.slice A n c,(.int .u16 t),.int .i64 q,.func (.func 238) #[] #[.pointer (some ⟨p,0,none⟩)]] w fun e w'=>e=.returned (.tuple #[(.int .u16 0),.int .i64 q])∧Below w.heap.size w w':=by
 have hs:sameB (putM t) xs=false:=sameB_no (putM_bytes t ht) hb.fit h
 clear h
 go_enter Tryz.func207,Tryz.ntmps207
 go_wp2_with fail
 refine(surelyBits_any t ht p _ hp).mono ?_
 rintro e w1 ⟨A1,c1,rfl,hh,hbel⟩
 go_wp2_with fail
 refine(equal_any _ _ _ _ _ _ _ _ _ hh.1 (hb.below hbel)).mono ?_
 rw[hs]
 rintro e w2 ⟨rfl,rfl⟩
 go_wp2_with fail
 go_ret2
 exact⟨rfl,hbel⟩
theorem or16_zero {y:Int}(h0:0≤y)(h:y≤255):bits .or .u16 0 y=y:=by
 have:=bits_join_low .u16 16 (by decide) (fun n h₀ h₁=>by rw[IntKind.wrap_u16];omega) 0 0 y (by decide) (by decide) (by decide) h0 (by omega) (by omega)
 omega
theorem or16_high {y z:Int}(h0:0≤y)(h:y≤255)(h1:0≤z)(h2:z≤255):bits .or .u16 y (z*256)=y+256*z:=by
 have:=bits_join_low .u16 16 (by decide) (fun n h₀ h₁=>by rw[IntKind.wrap_u16];omega) 8 y (z*256) h0 (by omega) (by omega) (by omega) (by omega) (by omega)
 omega
theorem cell_at {w:World}{b off n k:Nat}{xs:List Int}(h:Bys w (some ⟨b,off,none⟩) n xs)(hk:k<n):w.cell? ⟨b,off+k,none⟩=some (.int .u8 (xs.getD k 0)):=by
 obtain⟨b',off',e,_,hc⟩:=h.2.2 (by omega)
 cases e
 exact hc k hk
def QuietM (w:World)(m:Int)(e:Ending)(w':World):Prop:=e=.returned (.int .u16 m)∧w=w'
theorem maskOf_any (A:Option Addr)(n c:Nat)(xs:List Int)(w:World)(hb:Bys w A n xs)(hc:n≤c)(hm:c≤maxLen):
 Calls Tryz.prog 208 #[.slice A n c] w (QuietM w (maskF (xs.take 3))):=by
 unfold maxLen at hm
 have hlen:=hb.len
 have hmax:max (3:Int) 0=3:=by decide
 match xs,hlen with
 | [],hlen=>
  obtain rfl:n=0:=by simpa using hlen.symm
  clear hlen
  go_enter Tryz.func208,Tryz.ntmps208
  go_wp2
  refine wp_loop_rounds 1 ?_
  rw[rounds_succ]
  go_wp2
  go_ret
  exact⟨rfl,rfl⟩
 | [x],hlen=>
  obtain rfl:n=1:=by simpa using hlen.symm
  obtain⟨b,off,rfl,_,_⟩:=hb.2.2 (by decide)
  have h0:=cell_at hb (k:=0) (by decide)
  rw[Nat.add_zero] at h0
  simp only[List.getD_cons_zero] at h0
  clear hlen
  go_enter Tryz.func208,Tryz.ntmps208
  go_wp2
  refine wp_loop_rounds 2 ?_
  rw[rounds_succ]
  go_wp2
  rw[rounds_succ]
  go_wp2
  go_ret
  exact⟨rfl,rfl⟩
 | [x,y],hlen=>
  obtain rfl:n=2:=by simpa using hlen.symm
  obtain⟨b,off,rfl,_,_⟩:=hb.2.2 (by decide)
  have h0:=cell_at hb (k:=0) (by decide)
  have h1:=cell_at hb (k:=1) (by decide)
  rw[Nat.add_zero] at h0
  simp only[List.getD_cons_zero,List.getD_cons_succ] at h0 h1
  have hy:=hb.fit y (by simp)
  have hr:=rv_bd y
  have hor:=or16_zero hr.1 hr.2
  clear hlen
  go_enter Tryz.func208,Tryz.ntmps208
  go_wp2
  refine wp_loop_rounds 3 ?_
  rw[rounds_succ]
  go_wp2
  rw[rounds_succ]
  go_wp2_with fail
  refine(rev8_any y _ hy.1 hy.2).mono ?_
  rintro e w' ⟨rfl,rfl⟩
  go_wp2
  rw[rounds_succ]
  go_wp2
  go_ret
  exact⟨rfl,rfl⟩
 |x::y::z::r,hlen=>
  have hn:3≤n:=by rw[←hlen];simp
  obtain⟨b,off,rfl,_,_⟩:=hb.2.2 (by omega)
  have h0:=cell_at hb (k:=0) (by omega)
  have h1:=cell_at hb (k:=1) (by omega)
  have h2:=cell_at hb (k:=2) (by omega)
  rw[Nat.add_zero] at h0
  simp only[List.getD_cons_zero,List.getD_cons_succ] at h0 h1 h2
  have hy:=hb.fit y (by simp)
  have hz:=hb.fit z (by simp)
  have hr:=rv_bd y
  have hr2:=rv_bd z
  have hor:=or16_zero hr.1 hr.2
  have hor2:=or16_high hr.1 hr.2 hr2.1 hr2.2
  have hm3:min (n:Int) 3=3:=by omega
  clear hlen
  by_cases hn3:n=3
  ·subst hn3
   go_enter Tryz.func208,Tryz.ntmps208
   go_wp2
   refine wp_loop_rounds 4 ?_
   rw[rounds_succ]
   go_wp2
   rw[rounds_succ]
   go_wp2_with fail
   refine(rev8_any y _ hy.1 hy.2).mono ?_
   rintro e w' ⟨rfl,rfl⟩
   go_wp2
   rw[rounds_succ]
   go_wp2_with fail
   refine(rev8_any z _ hz.1 hz.2).mono ?_
   rintro e w' ⟨rfl,rfl⟩
   go_wp2
   rw[rounds_succ]
   go_wp2
   go_ret
   exact⟨rfl,rfl⟩
  ·have hn4:3<n:=by omega
   go_enter Tryz.func208,Tryz.ntmps208
   go_wp2
   refine wp_loop_rounds 4 ?_
   rw[rounds_succ]
   go_wp2
   rw[rounds_succ]
   go_wp2_with fail
   refine(rev8_any y _ hy.1 hy.2).mono ?_
   rintro e w' ⟨rfl,rfl⟩
   go_wp2
   rw[rounds_succ]
   go_wp2_with fail
   refine(rev8_any z _ hz.1 hz.2).mono ?_
   rintro e w' ⟨rfl,rfl⟩
   go_wp2
   rw[rounds_succ]
   go_wp2
   go_ret
   exact⟨rfl,rfl⟩
theorem bits_any (A:Option Addr)(n c:Nat)(xs:List Int)(w:World)(hb:Bys w A n xs)(hc:n≤c)(hm:c≤maxLen):
 Calls Tryz.prog 149 #[.slice A n c] w (Told w (.int .u16 (bitsF xs).1) (bitsF xs).2):=by
 have ht:=maskF_u16 (xs.take 3)
 have hcell: ∀w:World,(w.alloc (.cells #[.func (.func 147) #[] #[]] 149)).cell? ⟨w.heap.size,0,none⟩=some (.func (.func 147) #[] #[]):=fun w=>by simp
 by_cases h:putM (maskF (xs.take 3))=xs
 ·have e:bitsF xs=(maskF (xs.take 3),0):=by unfold bitsF;rw[if_pos h]
  rw[e]
  have H:=hd_ h
  have HC:=hd_ hcell
  clear h e hcell
  go_enter Tryz.func149,Tryz.ntmps149
  go_wp2_with fail
  refine(maskOf_any _ _ _ _ _ hb hc hm).mono ?_
  rintro e w' ⟨rfl,rfl⟩
  go_wp2_with fail
  refine(sureBits_any _).mono ?_
  rintro e w' ⟨rfl,rfl⟩
  go_wp2_with fail
  refine(asBits_yes _ _ _ _ _ ht _ _ _ (hb.alloc _) (HC.out _) H.out).mono ?_
  rintro e w' ⟨rfl,hbel⟩
  go_wp2_with fail
  go_ret2
  exact⟨rfl,((br_ _ _).alloc (lr_ _) _).trans (hbel.mono (by simp))⟩
 ·have e:bitsF xs=(0,24):=by unfold bitsF;rw[if_neg h]
  rw[e]
  have H:=hd_ h
  have HC:=hd_ hcell
  clear h e hcell
  go_enter Tryz.func149,Tryz.ntmps149
  go_wp2_with fail
  refine(maskOf_any _ _ _ _ _ hb hc hm).mono ?_
  rintro e w' ⟨rfl,rfl⟩
  go_wp2_with fail
  refine(sureBits_any _).mono ?_
  rintro e w' ⟨rfl,rfl⟩
  go_wp2_with fail
  refine(asBits_no _ _ _ _ _ ht _ _ _ (hb.alloc _) (HC.out _) H.out).mono ?_
  rintro e w' ⟨rfl,hbel⟩
  go_wp2_with fail
  go_ret2
  exact⟨rfl,((br_ _ _).alloc (lr_ _) _).trans (hbel.mono (by simp))⟩
end Go.Proofs.YtjanfogifehhmaaGreatDoor.intc
namespace Go.Proofs.YtjanfogifehhmaaGreatDoor.intc
open Go.RowKit tlvc intm
end Go.Proofs.YtjanfogifehhmaaGreatDoor.intc
namespace Go.Proofs.YtjanfogifehhmaaGreatDoor.intc
open Go.RowKit tlvc intm
end Go.Proofs.YtjanfogifehhmaaGreatDoor.intc
