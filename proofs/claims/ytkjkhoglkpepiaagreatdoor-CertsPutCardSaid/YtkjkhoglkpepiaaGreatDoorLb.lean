/- TlvA tlv.appendLength puts the bytes of a length behind a ro The live question of warderlaw01: it answers true, and write -/
import Derived.Test.YtkjkhoglkpepiaaGreatDoorChecked
import Derived.WalkKit
import Derived.Below
import Derived.Lib.Hide
import Derived.Test.YtkjkhoglkpepiaaGreatDoorKa
import Derived.Lib.SlBytesConst
import Derived.WalkMore
import Derived.ScopeJumps
import Derived.Outline
import Derived.WalkSpells
import Derived.BigQuiet
import Derived.Deep.QuietTactic
import Derived.OpenShut
import Derived.Deep.Draws
set_option maxRecDepth 100000
set_option maxHeartbeats 400000
set_option linter.unusedVariables false
set_option linter.unusedSimpArgs false
namespace Go.Proofs.YtkjkhoglkpepiaaGreatDoor.tlvd
open Go.RowKit
def endlessB (t:Int):Bool:=bits BinOp.and IntKind.u8 t 31==31
theorem endless_mod (t:Int)(h0:0≤t)(h255:t≤255):endlessB t=(t%32==31):=by
 have key: ∀k:Fin 256,endlessB (k.val:Int)=((k.val:Int)%32==31):=by decide+kernel
 obtain⟨k,rfl⟩:=Int.eq_ofNat_of_zero_le h0
 exact key ⟨k,by omega⟩
theorem endless_any (t:Int)(w:World):
 Calls Tryz.prog 144 #[.int .u8 t] w fun e w'=>e=.returned (.bool (endlessB t))∧w=w':=by
 go_enter Tryz.func144,Tryz.ntmps144
 go_wp2
 go_ret
 exact⟨rfl,rfl⟩
def widthN (n:Int):Int:=if n<128 then 1 else if n≤255 then 2 else 3
theorem width_any (n:Int)(w:World):
 Calls Tryz.prog 145 #[.int .i64 n] w fun e w'=>e=.returned (.int .i64 (widthN n))∧w=w':=by
 by_cases h1:n<128
 ·have:widthN n=1:=by simp[widthN,h1]
  rw[this]
  clear this
  go_enter Tryz.func145,Tryz.ntmps145
  go_wp2
  go_ret
  exact⟨rfl,rfl⟩
 ·by_cases h2:n≤255
  ·have:widthN n=2:=by simp[widthN,h1,h2]
   rw[this]
   clear this
   go_enter Tryz.func145,Tryz.ntmps145
   go_wp2
   go_ret
   exact⟨rfl,rfl⟩
  ·have:widthN n=3:=by simp[widthN,h1,h2]
   rw[this]
   clear this
   go_enter Tryz.func145,Tryz.ntmps145
   go_wp2
   go_ret
   exact⟨rfl,rfl⟩
theorem following_any (n:Int)(w:World)(h0:0≤n)(h255:n≤255):
 Calls Tryz.prog 200 #[.int .u8 n] w fun e w'=>e=.returned (.int .i64 (if n<128 then 0 else n - 128))∧w=w':=by
 by_cases h1:n<128
 ·rw[if_pos h1]
  go_enter Tryz.func200,Tryz.ntmps200
  go_wp2
  go_ret
  exact⟨rfl,rfl⟩
 ·rw[if_neg h1]
  go_enter Tryz.func200,Tryz.ntmps200
  go_wp2
  go_ret
  exact⟨rfl,rfl⟩
end Go.Proofs.YtkjkhoglkpepiaaGreatDoor.tlvd
namespace Go.Proofs.YtkjkhoglkpepiaaGreatDoor.tlvd
open Go.RowKit tlvc
theorem Tryz.info5:(Tryz.prog.info? 5).map (fun i=>(i.zero,i.size,i.bytes))=some (some (.int .u8 0),1,1):=by kernel_rfl
def hdr (n:Int):List Int:=if n<128 then [n] else if n≤255 then [129,n] else [130,n/ 256,n%256]
def LenPost (base:Nat)(k:Nat)(xs:List Value)(n:Int)(w:World)(e:Ending)(w':World):Prop:=
 ∃v',e=.returned v'∧w'.ownsRow base 5 1 v' (k+ (hdr n).length) (xs++vals (hdr n))∧Below base w w'
theorem bys_new {w:World}{xs:List Int}{c:Array Value}{e:TypeId}{fr:Nat × Nat}{b m:Nat}(hc:c=(vals xs).toArray)(hf:Fit xs)(hm:m=xs.length)(hb:b=w.heap.size):Bys (w.alloc (.cells c e fr)) (some ⟨b,0,none⟩) m xs:=by
 subst hc hm hb
 refine⟨rfl,hf,fun _=>⟨_,_,rfl,by simp,fun j hj=>?_⟩⟩
 rw[Nat.zero_add,World.cell?_alloc_mark]
 simp[vals,List.getD_eq_getElem?_getD,List.getElem?_eq_getElem hj]
theorem lenPost_mk {base k:Nat}{xs:List Value}{n:Int}{w w0 w':World}{v v':Value}{ys:List Int}{m:Nat}(hy:hdr n=ys)(hm:m=ys.length)(hv:w0.ownsRow base 5 1 v k xs)(h:w'.ownsRow base 5 1 v' (k+m) (xs++vals ys))
 (hg:w0.grownBy w' v.ownBlock) (hb:Below base w w0) (hs:base≤w0.heap.size):LenPost base k xs n w (.returned v') w':=by
 subst hy hm
 exact⟨v',rfl,h,hb.grown hg hs fun j hj=>(hv.lt j hj).1⟩
theorem appendLength_1 (base:Nat)(v:Value)(k:Nat)(xs:List Value)(n:Int)(w:World)(hown:w.ownsRow base 5 1 v k xs)(hk:k≤140737488355320)(h0:0≤n)(hn:n<128)(hbase:base≤w.heap.size):
 Calls Tryz.prog 146 #[v,.int .i64 n] w (LenPost base k xs n w):=by
 obtain⟨i0,hi,hz0,hz1,hz2⟩:=info_parts Tryz.info5
 have hw:widthN n=1:=by simp[widthN,hn]
 have HY:Hid (hdr n=[n]):=by show hdr n=[n];simp[hdr,hn]
 have hf:Fit [n]:=by intro x hx;simp at hx;omega
 go_enter Tryz.func146,Tryz.ntmps146
 go_wp2_with (first | (go_at_call 145;refine(width_any _ _).mono ?_;rintro e w' ⟨rfl,rfl⟩;rw[hw]) | (at_builtin;refine wpl_app rfl (.tmp 9) (.tmp 12) 34 rfl base 5 i0 (.int .u8 0) Tryz.underlying34 hi hz0 hz1 hz2 rfl v k xs rfl (hown.alloc _) _ 1 1 [n] rfl (bys_new rfl hf rfl (by simp)) (by omega) (by simp;omega) ?_))
 intro v' w1 ho hg
 go_wp2
 go_ret
 exact lenPost_mk HY.out rfl (hown.alloc _) ho hg ((br_ _ _).alloc hbase _) (by simp;omega)
theorem appendLength_2 (base:Nat)(v:Value)(k:Nat)(xs:List Value)(n:Int)(w:World)(hown:w.ownsRow base 5 1 v k xs)(hk:k≤140737488355320)(h0:128≤n)(hn:n≤255)(hbase:base≤w.heap.size):
 Calls Tryz.prog 146 #[v,.int .i64 n] w (LenPost base k xs n w):=by
 obtain⟨i0,hi,hz0,hz1,hz2⟩:=info_parts Tryz.info5
 have hw:widthN n=2:=by simp[widthN,hn];omega
 have HY:Hid (hdr n=[129,n]):=by show hdr n=[129,n];simp[hdr,hn];omega
 have hf:Fit [129,n]:=by intro x hx;simp at hx;omega
 go_enter Tryz.func146,Tryz.ntmps146
 go_wp2_with (first | (go_at_call 145;refine(width_any _ _).mono ?_;rintro e w' ⟨rfl,rfl⟩;rw[hw]) | (at_builtin;refine wpl_app rfl (.tmp 16) (.tmp 19) 34 rfl base 5 i0 (.int .u8 0) Tryz.underlying34 hi hz0 hz1 hz2 rfl v k xs rfl (hown.alloc _) _ 2 2 [129,n] rfl (bys_new rfl hf rfl (by simp)) (by omega) (by simp;omega) ?_))
 intro v' w1 ho hg
 go_wp2
 go_ret
 exact lenPost_mk HY.out rfl (hown.alloc _) ho hg ((br_ _ _).alloc hbase _) (by simp;omega)
theorem appendLength_3 (base:Nat)(v:Value)(k:Nat)(xs:List Value)(n:Int)(w:World)(hown:w.ownsRow base 5 1 v k xs)(hk:k≤140737488355320)(h0:255<n)(hn:n≤65535)(hbase:base≤w.heap.size):
 Calls Tryz.prog 146 #[v,.int .i64 n] w (LenPost base k xs n w):=by
 obtain⟨i0,hi,hz0,hz1,hz2⟩:=info_parts Tryz.info5
 have hw:widthN n=3:=by simp[widthN];omega
 have HY:Hid (hdr n=[130,n/ 256,n%256]):=by show hdr n=[130,n/ 256,n%256];unfold hdr;rw[if_neg (by omega),if_neg (by omega)]
 have hf:Fit [130,n/ 256,n%256]:=by intro x hx;simp at hx;omega
 go_enter Tryz.func146,Tryz.ntmps146
 go_wp2_with (first | (go_at_call 145;refine(width_any _ _).mono ?_;rintro e w' ⟨rfl,rfl⟩;rw[hw]) | (at_builtin;refine wpl_app rfl (.tmp 21) (.tmp 27) 34 rfl base 5 i0 (.int .u8 0) Tryz.underlying34 hi hz0 hz1 hz2 rfl v k xs rfl (hown.alloc _) _ 3 3 [130,n/ 256,n%256] rfl (bys_new rfl hf rfl (by simp)) (by omega) (by simp;omega) ?_))
 intro v' w1 ho hg
 go_wp2
 go_ret
 exact lenPost_mk HY.out rfl (hown.alloc _) ho hg ((br_ _ _).alloc hbase _) (by simp;omega)
end Go.Proofs.YtkjkhoglkpepiaaGreatDoor.tlvd
namespace Go.Proofs.YtkjkhoglkpepiaaGreatDoor.tlvd
open Go.RowKit tlvc
theorem appendLength_any (base:Nat)(v:Value)(k:Nat)(xs:List Value)(n:Int)(w:World)(hown:w.ownsRow base 5 1 v k xs)(hk:k≤140737488355320)(h0:0≤n)(hn:n≤65535)(hbase:base≤w.heap.size):
 Calls Tryz.prog 146 #[v,.int .i64 n] w (LenPost base k xs n w):=by
 by_cases h1:n<128
 ·exact appendLength_1 base v k xs n w hown hk h0 h1 hbase
 ·by_cases h2:n≤255
  ·exact appendLength_2 base v k xs n w hown hk (by omega) h2 hbase
  ·exact appendLength_3 base v k xs n w hown hk (by omega) hn hbase
theorem hdr_length (n:Int):(hdr n).length=if n<128 then 1 else if n≤255 then 2 else 3:=by
 unfold hdr
 split
 ·rfl
 ·split<;>rfl
theorem hdr_fit (n:Int)(h0:0≤n)(hn:n≤65535):Fit (hdr n):=by
 intro x hx
 unfold hdr at hx
 split at hx
 ·simp at hx;omega
 ·split at hx<;>simp at hx<;>omega
def putBytes (t:Int)(xs:List Int):List Int:=[t]++hdr xs.length++xs
def PutPost (w:World)(ys:List Int)(e:Ending)(w':World):Prop:=
 ∃g cap,e=.returned (.tuple #[.slice (some ⟨g,0,none⟩) ys.length cap,.int .i64 0])∧w'.ownsRow w.heap.size 5 1 (.slice (some ⟨g,0,none⟩) ys.length cap) ys.length (vals ys)∧Bys w' (some ⟨g,0,none⟩) ys.length ys∧Below w.heap.size w w'
theorem own_form {w:World}{base:Nat}{e:TypeId}{v:Value}{n:Nat}{xs:List Value}(h:w.ownsRow base e 1 v n xs)(hn:0<n): ∃g cap,v=.slice (some ⟨g,0,none⟩) n cap:=by
 rcases h.2 with ⟨_,h0⟩ | ⟨g,cap,cur,hv,_⟩
 ·omega
 ·exact⟨g,cap,hv⟩
theorem putPost_mk {w w1 w':World}{v v':Value}{k n:Nat}{xs:List Value}{ys:List Int}(hn:n=ys.length)(hpos:0<n)(hx:xs=vals ys)(hf:Fit ys){xs':List Value}(hv:w1.ownsRow w.heap.size 5 1 v k xs')(h:w'.ownsRow w.heap.size 5 1 v' n xs)
 (hg:w1.grownBy w' v.ownBlock) (hb:Below w.heap.size w w1):PutPost w ys (.returned (.tuple #[v',.int .i64 0])) w':=by
 subst hn hx
 obtain⟨g,cap,rfl⟩:=own_form h hpos
 exact⟨g,cap,rfl,h,Bys.own h hf,hb.grown hg hb.size fun j hj=>(hv.lt j hj).1⟩
def PutStop (w:World)(n:Int)(a':Act)(w':World):Prop:=w=w'∧a'.defers=[]∧a'.tmps.size=34∧a'.tmps.getD 7 undef=.int .i64 n
theorem put_tag (t:Int)(A:Option Addr)(n c:Nat)(w:World)(ht:endlessB t=true):
 Calls Tryz.prog 65 #[.int .u8 t,.slice A n c] w fun e w'=>e=.returned (.tuple #[.slice none 0 0,.int .i64 11])∧w=w':=by
 go_enter Tryz.func65,Tryz.ntmps65
 go_wp2
 refine wp_scope_jumps 0 (PutStop w 11) (fun _ _=>0) rfl ?_ ?_
 ·go_wp2_with (first | (go_at_call 144;refine(endless_any _ _).mono ?_;rintro e w' ⟨rfl,rfl⟩;rw[ht]))
  go_step3
  exact⟨rfl,rfl,rfl,rfl,rfl⟩
 ·rintro⟨tmps,defers⟩ w' ⟨rfl,rfl,hs,h7⟩
  go_wp2
  simp only[Exit.jump]
  go_ret2
  simp[hs]
theorem put_many (t:Int)(A:Option Addr)(n c:Nat)(w:World)(ht:endlessB t=false)(hn:65535<n):
 Calls Tryz.prog 65 #[.int .u8 t,.slice A n c] w fun e w'=>e=.returned (.tuple #[.slice none 0 0,.int .i64 2])∧w=w':=by
 go_enter Tryz.func65,Tryz.ntmps65
 go_wp2
 refine wp_scope_jumps 0 (PutStop w 2) (fun _ _=>0) rfl ?_ ?_
 ·go_wp2_with (first | (go_at_call 144;refine(endless_any _ _).mono ?_;rintro e w' ⟨rfl,rfl⟩;rw[ht]))
  go_step3
  exact⟨rfl,rfl,rfl,rfl,rfl⟩
 ·rintro⟨tmps,defers⟩ w' ⟨rfl,rfl,hs,h7⟩
  go_wp2
  simp only[Exit.jump]
  go_ret2
  simp[hs]
theorem put_len (t:Int)(xs:List Int):(putBytes t xs).length=1+ (hdr xs.length).length+xs.length:=by simp[putBytes];omega
theorem width_hdr (n:Int):widthN n=(hdr n).length:=by
 unfold widthN hdr
 split
 ·rfl
 ·split<;>rfl
theorem put_b2 {w w1 w2:World}{o:Obj}{v:Value}(h1:w1.ownsRow w.heap.size 5 1 v 0 [])(hg1:w.grownBy w1 none)(hg2:(w1.alloc o).grownBy w2 v.ownBlock):Below w.heap.size w w2:=
 (((br_ _ _).grown hg1 (lr_ _) (fun _ h=>by cases h)).alloc hg1.size o).grown hg2 (by have:=hg1.size;simp;omega) fun j hj=>(h1.lt j hj).1
theorem put_ok (t:Int)(A:Option Addr)(n c:Nat)(xs:List Int)(w:World)(ht:endlessB t=false)(h0:0≤t)(h255:t≤255)(hn:n≤65535)(hb:Bys w A n xs):
 Calls Tryz.prog 65 #[.int .u8 t,.slice A n c] w (PutPost w (putBytes t xs)):=by
 obtain⟨i0,hi,hz0,hz1,hz2⟩:=info_parts Tryz.info5
 obtain⟨k,hk,hk3⟩: ∃k:Nat,widthN n=k∧k≤3:=⟨(hdr n).length,width_hdr n,by rw[hdr_length];split;omega;split<;>omega⟩
 have hft:Fit [t]:=by intro x hx;simp at hx;omega
 have HK:Hid (k=(hdr n).length):=by have:=width_hdr n;show k=_;omega
 go_enter Tryz.func65,Tryz.ntmps65
 go_wp2
 go_step3
 go_wp2_with (first | (go_at_call 144;refine(endless_any _ _).mono ?_;rintro e w' ⟨rfl,rfl⟩;rw[ht]) | (go_at_call 145;refine(width_any _ _).mono ?_;rintro e w' ⟨rfl,rfl⟩;rw[hk]) | (at_make;refine wpList_make_own _ rfl _ _ 34 rfl w.heap.size 5 i0 (.int .u8 0) 1 Tryz.underlying34 hi hz0 hz1 _ _ _ (1+k+n) rfl rfl (by omega) (by rw[hz2];omega) (by unfold maxLen;omega) (by simp) ?_;intro w1 hown1 hg1) | (at_builtin;refine wpl_app rfl (.tmp 21) (.tmp 23) 34 rfl w.heap.size 5 i0 (.int .u8 0) Tryz.underlying34 hi hz0 hz1 hz2 rfl _ 0 [] rfl (hown1.alloc _) _ 1 1 [t] rfl (bys_new rfl hft rfl (by simp)) (by omega) (by have:=hg1.size;simp;omega) ?_;intro v2 w2 hown2 hg2;have hb2:Below w.heap.size w w2:=put_b2 hown1 hg1 hg2;clear hg1 hg2 hown1;simp only[List.nil_append,Nat.zero_add] at hown2) | (go_at_call 146;refine(appendLength_any w.heap.size v2 1 (vals [t]) n w2 hown2 (by omega) (by omega) (by omega) hb2.size).mono ?_;rintro e w3 ⟨v3,rfl,hown3,hb3⟩;have hb3':Below w.heap.size w w3:=hb2.trans hb3;clear hb3 hb2 hown2) | (at_builtin;refine wpl_app rfl (.tmp 29) (.tmp 30) 34 rfl w.heap.size 5 i0 (.int .u8 0) Tryz.underlying34 hi hz0 hz1 hz2 rfl v3 _ _ rfl hown3 A n c xs rfl (hb.below hb3') (by rw[hdr_length];split;omega;split<;>omega) hb3'.size ?_;intro v4 w4 hown4 hg4))
 rw[Exit.noGoto_ret]
 go_ret2
 have hl:=hb.len
 refine putPost_mk ?_ (by omega) ?_ ((hft.app (hdr_fit _ (by omega) (by omega))).app hb.fit) hown3 hown4 hg4 hb3'
 ·rw[put_len,hl]
 ·unfold putBytes;rw[hl,vals_append,vals_append]
end Go.Proofs.YtkjkhoglkpepiaaGreatDoor.tlvd
namespace Go.Proofs.YtkjkhoglkpepiaaGreatDoor.tlvd
open Go.RowKit tlvc
theorem refPut_tag (t:Int)(A:Option Addr)(n c:Nat)(w:World)(ht:endlessB t=true)(h0:0≤t)(h255:t≤255):
 Calls Tryz.prog 73 #[.int .u8 t,.slice A n c] w fun e w'=>e=.returned (.tuple #[.slice none 0 0,.int .i64 11])∧w=w':=by
 have hm:=endless_mod t h0 h255
 rw[ht] at hm
 replace hm:=hm.symm
 clear ht
 go_enter Tryz.func73,Tryz.ntmps73
 go_wp2
 go_ret2
 exact⟨rfl,rfl⟩
theorem refPut_many (t:Int)(A:Option Addr)(n c:Nat)(w:World)(ht:endlessB t=false)(h0:0≤t)(h255:t≤255)(hn:65535<n):
 Calls Tryz.prog 73 #[.int .u8 t,.slice A n c] w fun e w'=>e=.returned (.tuple #[.slice none 0 0,.int .i64 2])∧w=w':=by
 have hm:=endless_mod t h0 h255
 rw[ht] at hm
 replace hm:=hm.symm
 clear ht
 go_enter Tryz.func73,Tryz.ntmps73
 go_wp2
 go_ret2
 exact⟨rfl,rfl⟩
theorem ref_b2 {w w2:World}{c:Array Value}{e:TypeId}{o:Obj}{v:Value}{k:Nat}{xs:List Value}(h1:(w.alloc (.cells c e)).ownsRow w.heap.size 5 1 v k xs)(hg2:((w.alloc (.cells c e)).alloc o).grownBy w2 v.ownBlock):Below w.heap.size w w2:=
 (((br_ _ _).alloc (lr_ _) _).alloc (by simp) o).grown hg2 (by simp;omega) fun j hj=>(h1.lt j hj).1
theorem ref_own1 (w:World)(t:Int):(w.alloc (.cells #[.int .u8 t] 5)).ownsRow w.heap.size 5 1 (.slice (some ⟨w.heap.size,0,none⟩) 1 1) 1 (vals [t]):=
 World.ownsRow_lit w #[.int .u8 t] 1 (lr_ _) (by decide) rfl
theorem refPut_1 (t:Int)(A:Option Addr)(n c:Nat)(xs:List Int)(w:World)(ht:endlessB t=false)(h0:0≤t)(h255:t≤255)(hn:n<128)(hb:Bys w A n xs):
 Calls Tryz.prog 73 #[.int .u8 t,.slice A n c] w (PutPost w (putBytes t xs)):=by
 obtain⟨i0,hi,hz0,hz1,hz2⟩:=info_parts Tryz.info5
 have hft:Fit [t]:=by intro x hx;simp at hx;omega
 have hfy:Fit [(n:Int)]:=by intro x hx;simp at hx;omega
 have HY:Hid (hdr n=[(n:Int)]):=by show hdr n=[(n:Int)];unfold hdr;rw[if_pos (by omega)]
 have hown1:=ref_own1 w t
 have hm:(t%32==31)=false:=by rw[←endless_mod t h0 h255];exact ht
 clear ht
 go_enter Tryz.func73,Tryz.ntmps73
 go_wp2_with (first | (at_builtin;refine wpl_app rfl (.tmp 28) (.tmp 31) 34 rfl w.heap.size 5 i0 (.int .u8 0) Tryz.underlying34 hi hz0 hz1 hz2 rfl _ 1 (vals [t]) rfl (hown1.alloc _) _ 1 1 [(n:Int)] rfl (bys_new rfl hfy rfl (by simp)) (by omega) (by simp;omega) ?_;intro v2 w2 hown2 hg2;have hb2:Below w.heap.size w w2:=ref_b2 hown1 hg2;clear hg2) | (at_builtin;refine wpl_app rfl (.tmp 41) (.tmp 42) 34 rfl w.heap.size 5 i0 (.int .u8 0) Tryz.underlying34 hi hz0 hz1 hz2 rfl v2 _ _ rfl hown2 A n c xs rfl (hb.below hb2) (by omega) hb2.size ?_;intro v4 w4 hown4 hg4))
 go_ret2
 have hl:=hb.len
 refine putPost_mk ?_ (by omega) ?_ ((hft.app (hdr_fit _ (by omega) (by omega))).app hb.fit) hown2 hown4 hg4 hb2
 ·rw[put_len,hl,HY.out];simp
 ·unfold putBytes;rw[hl,vals_append,vals_append,HY.out]
theorem refPut_2 (t:Int)(A:Option Addr)(n c:Nat)(xs:List Int)(w:World)(ht:endlessB t=false)(h0:0≤t)(h255:t≤255)(hn1:128≤n)(hn:n≤255)(hb:Bys w A n xs):
 Calls Tryz.prog 73 #[.int .u8 t,.slice A n c] w (PutPost w (putBytes t xs)):=by
 obtain⟨i0,hi,hz0,hz1,hz2⟩:=info_parts Tryz.info5
 have hft:Fit [t]:=by intro x hx;simp at hx;omega
 have hfy:Fit [129,(n:Int)]:=by intro x hx;simp at hx;omega
 have HY:Hid (hdr n=[129,(n:Int)]):=by show hdr n=[129,(n:Int)];unfold hdr;rw[if_neg (by omega),if_pos (by omega)]
 have hown1:=ref_own1 w t
 have hm:(t%32==31)=false:=by rw[←endless_mod t h0 h255];exact ht
 clear ht
 go_enter Tryz.func73,Tryz.ntmps73
 go_wp2_with (first | (at_builtin;refine wpl_app rfl (.tmp 36) (.tmp 39) 34 rfl w.heap.size 5 i0 (.int .u8 0) Tryz.underlying34 hi hz0 hz1 hz2 rfl _ 1 (vals [t]) rfl (hown1.alloc _) _ 2 2 [129,(n:Int)] rfl (bys_new rfl hfy rfl (by simp)) (by omega) (by simp;omega) ?_;intro v2 w2 hown2 hg2;have hb2:Below w.heap.size w w2:=ref_b2 hown1 hg2;clear hg2) | (at_builtin;refine wpl_app rfl (.tmp 41) (.tmp 42) 34 rfl w.heap.size 5 i0 (.int .u8 0) Tryz.underlying34 hi hz0 hz1 hz2 rfl v2 _ _ rfl hown2 A n c xs rfl (hb.below hb2) (by omega) hb2.size ?_;intro v4 w4 hown4 hg4))
 go_ret2
 have hl:=hb.len
 refine putPost_mk ?_ (by omega) ?_ ((hft.app (hdr_fit _ (by omega) (by omega))).app hb.fit) hown2 hown4 hg4 hb2
 ·rw[put_len,hl,HY.out];simp
 ·unfold putBytes;rw[hl,vals_append,vals_append,HY.out]
theorem refPut_3 (t:Int)(A:Option Addr)(n c:Nat)(xs:List Int)(w:World)(ht:endlessB t=false)(h0:0≤t)(h255:t≤255)(hn1:255<n)(hn:n≤65535)(hb:Bys w A n xs):
 Calls Tryz.prog 73 #[.int .u8 t,.slice A n c] w (PutPost w (putBytes t xs)):=by
 obtain⟨i0,hi,hz0,hz1,hz2⟩:=info_parts Tryz.info5
 have hft:Fit [t]:=by intro x hx;simp at hx;omega
 have hfy:Fit [130,(n:Int) / 256,(n:Int)%256]:=by intro x hx;simp at hx;omega
 have HY:Hid (hdr n=[130,(n:Int) / 256,(n:Int)%256]):=by show hdr n=[130,(n:Int) / 256,(n:Int)%256];unfold hdr;rw[if_neg (by omega),if_neg (by omega)]
 have hown1:=ref_own1 w t
 have hm:(t%32==31)=false:=by rw[←endless_mod t h0 h255];exact ht
 clear ht
 go_enter Tryz.func73,Tryz.ntmps73
 go_wp2_with (first | (at_builtin;refine wpl_app rfl (.tmp 17) (.tmp 23) 34 rfl w.heap.size 5 i0 (.int .u8 0) Tryz.underlying34 hi hz0 hz1 hz2 rfl _ 1 (vals [t]) rfl (hown1.alloc _) _ 3 3 [130,(n:Int) / 256,(n:Int)%256] rfl (bys_new rfl hfy rfl (by simp)) (by omega) (by simp;omega) ?_;intro v2 w2 hown2 hg2;have hb2:Below w.heap.size w w2:=ref_b2 hown1 hg2;clear hg2) | (at_builtin;refine wpl_app rfl (.tmp 41) (.tmp 42) 34 rfl w.heap.size 5 i0 (.int .u8 0) Tryz.underlying34 hi hz0 hz1 hz2 rfl v2 _ _ rfl hown2 A n c xs rfl (hb.below hb2) (by omega) hb2.size ?_;intro v4 w4 hown4 hg4))
 go_ret2
 have hl:=hb.len
 refine putPost_mk ?_ (by omega) ?_ ((hft.app (hdr_fit _ (by omega) (by omega))).app hb.fit) hown2 hown4 hg4 hb2
 ·rw[put_len,hl,HY.out];simp
 ·unfold putBytes;rw[hl,vals_append,vals_append,HY.out]
theorem refPut_ok (t:Int)(A:Option Addr)(n c:Nat)(xs:List Int)(w:World)(ht:endlessB t=false)(h0:0≤t)(h255:t≤255)(hn:n≤65535)(hb:Bys w A n xs):
 Calls Tryz.prog 73 #[.int .u8 t,.slice A n c] w (PutPost w (putBytes t xs)):=by
 by_cases h1:n<128
 ·exact refPut_1 t A n c xs w ht h0 h255 h1 hb
 ·by_cases h2:n≤255
  ·exact refPut_2 t A n c xs w ht h0 h255 (by omega) h2 hb
  ·exact refPut_3 t A n c xs w ht h0 h255 (by omega) hn hb
end Go.Proofs.YtkjkhoglkpepiaaGreatDoor.tlvd
set_option maxRecDepth 100000
set_option maxHeartbeats 1000000
set_option linter.unusedVariables false
set_option linter.unusedSimpArgs false
namespace Go.Proofs.YtkjkhoglkpepiaaGreatDoor.tlvd
open Go.RowKit tlvc
theorem e4:endlessB 4=false:=by decide+kernel
theorem e31:endlessB 31=true:=by decide+kernel
end Go.Proofs.YtkjkhoglkpepiaaGreatDoor.tlvd
namespace Go.Proofs.YtkjkhoglkpepiaaGreatDoor.tlvd
open Go.RowKit tlvc
theorem or8 (x y:Int)(h0:0≤x)(hx:x%256=0)(h1:x<4611686018427387904)(hy0:0≤y)(hy:y<256):bits .or .i64 x y=x+y:=
 bits_join .i64 62 (by decide) (fun n h₀ h₁=>by rw[IntKind.wrap_i64];omega) 8 x y h0 hx h1 hy0 hy (by omega)
theorem or0 (y:Int)(hy0:0≤y)(hy:y<256):bits .or .i64 0 y=y:=by rw[or8 0 y (by decide) (by decide) (by decide) hy0 hy];omega
theorem length_1 (A:Option Addr)(c:Nat)(x:Int)(w:World)(hb:Bys w A 1 [x]):
 Calls Tryz.prog 201 #[.slice A 1 c] w fun e w'=>e=.returned (.int .i64 x)∧w=w':=by
 obtain⟨b,off,rfl,_,hc⟩:=hb.2.2 (by decide)
 have hf:=hb.fit x (by simp)
 have h0:w.cell? ⟨b,off,none⟩=some (.int .u8 x):=by simpa using hc 0 (by decide)
 go_enter Tryz.func201,Tryz.ntmps201
 go_wp2
 go_ret
 exact⟨rfl,rfl⟩
theorem length_2 (A:Option Addr)(c:Nat)(x y:Int)(w:World)(hc2:2≤c)(hb:Bys w A 2 [x,y]):
 Calls Tryz.prog 201 #[.slice A 2 c] w fun e w'=>e=.returned (.int .i64 y)∧w=w':=by
 obtain⟨b,off,rfl,_,hc⟩:=hb.2.2 (by decide)
 have hf:=hb.fit y (by simp)
 have h1:w.cell? ⟨b,off+1,none⟩=some (.int .u8 y):=by simpa using hc 1 (by decide)
 clear hc
 have hcap: ¬c=1:=by omega
 have ho:=or0 y (by omega) (by omega)
 go_enter Tryz.func201,Tryz.ntmps201
 go_wp2
 refine wp_loop_rounds 2 ?_
 rw[rounds_succ]
 go_wp2
 rw[rounds_succ]
 go_wp2
 go_ret
 exact⟨rfl,rfl⟩
theorem length_3 (A:Option Addr)(c:Nat)(x y z:Int)(w:World)(hc2:3≤c)(hb:Bys w A 3 [x,y,z]):
 Calls Tryz.prog 201 #[.slice A 3 c] w fun e w'=>e=.returned (.int .i64 (y*256+z))∧w=w':=by
 obtain⟨b,off,rfl,_,hc⟩:=hb.2.2 (by decide)
 have hf:=hb.fit y (by simp)
 have hg:=hb.fit z (by simp)
 have h1:w.cell? ⟨b,off+1,none⟩=some (.int .u8 y):=by simpa using hc 1 (by decide)
 have h2:w.cell? ⟨b,off+1+1,none⟩=some (.int .u8 z):=by simpa[Nat.add_assoc] using hc 2 (by decide)
 clear hc
 have hcap: ¬c=1:=by omega
 have ho:=or0 y (by omega) (by omega)
 have ho2:=or8 (y*256) z (by omega) (by omega) (by omega) (by omega) (by omega)
 go_enter Tryz.func201,Tryz.ntmps201
 go_wp2
 refine wp_loop_rounds 3 ?_
 rw[rounds_succ]
 go_wp2
 rw[rounds_succ]
 go_wp2
 rw[rounds_succ]
 go_wp2
 go_ret
 exact⟨rfl,rfl⟩
end Go.Proofs.YtkjkhoglkpepiaaGreatDoor.tlvd
namespace Go.Proofs.YtkjkhoglkpepiaaGreatDoor.tlvd
open Go.RowKit tlvc
theorem results_tmp4 {fn:Func}{t u v x:Tmp}(h:fn.results=#[.tmp t,.tmp u,.tmp v,.tmp x])(tmps:Array Value)(P:Program)(w:World):
 (results fn tmps).run P w=.ok (.tuple #[tmps.getD t undef,tmps.getD u undef,tmps.getD v undef,tmps.getD x undef]) w:=by simp[results,h]
def No (n:Int):Ending:=.returned (.tuple #[.int .u8 0,.int .i64 0,.int .i64 0,.int .i64 n])
def Yes (t a z:Int):Ending:=.returned (.tuple #[.int .u8 t,.int .i64 a,.int .i64 z,.int .i64 0])
def HeadStop (w:World)(n:Int)(a':Act)(w':World):Prop:=w=w'∧a'.defers=[]∧a'.tmps.size=79∧a'.tmps.getD 11 undef=.int .i64 n
theorem head_arg (A:Option Addr)(n c:Nat)(at_:Int)(w:World)(h:at_<0∨(n:Int)<at_):
 Calls Tryz.prog 162 #[.slice A n c,.int .i64 at_] w fun e w'=>e=No 1∧w=w':=by
 go_enter Tryz.func162,Tryz.ntmps162
 go_wp2
 refine wp_scope_jumps 0 (HeadStop w 1) (fun _ _=>0) rfl ?_ ?_
 ·rcases h with h |h
  ·go_wp2
   go_step3
   exact⟨rfl,rfl,rfl,rfl,rfl⟩
  ·by_cases h0:at_<0
   ·go_wp2
    go_step3
    exact⟨rfl,rfl,rfl,rfl,rfl⟩
   ·go_wp2
    go_step3
    exact⟨rfl,rfl,rfl,rfl,rfl⟩
 ·rintro⟨tmps,defers⟩ w' ⟨rfl,rfl,hs,h7⟩
  go_wp2
  simp only[Exit.jump]
  refine bodyPost_ret (results_tmp4 rfl _ _ _) rfl ?_
  simp[hs,No]
theorem head_end (A:Option Addr)(n c:Nat)(w:World)(hnc:n≤c)(hm:n≤maxLen):
 Calls Tryz.prog 162 #[.slice A n c,.int .i64 n] w fun e w'=>e=No 12∧w=w':=by
 unfold maxLen at hm
 go_enter Tryz.func162,Tryz.ntmps162
 go_wp2
 refine wp_scope_jumps 0 (HeadStop w 12) (fun _ _=>0) rfl ?_ ?_
 ·go_wp2
  all_goals
   go_step3
   exact⟨rfl,rfl,rfl,rfl,rfl⟩
 ·rintro⟨tmps,defers⟩ w' ⟨rfl,rfl,hs,h7⟩
  go_wp2
  simp only[Exit.jump]
  refine bodyPost_ret (results_tmp4 rfl _ _ _) rfl ?_
  simp[hs,No]
theorem head_tag (b off k m c:Nat)(t:Int)(w:World)(hm:1≤m)(hnc:k+m≤c)(hmax:k+m≤9223372036854775807)(ht:endlessB t=true)(h0:w.cell? ⟨b,off+k,none⟩=some (.int .u8 t)):
 Calls Tryz.prog 162 #[.slice (some ⟨b,off,none⟩) (k+m) c,.int .i64 k] w fun e w'=>e=No 11∧w=w':=by
 have hck: ¬c=k:=by omega
 go_enter Tryz.func162,Tryz.ntmps162
 go_wp2
 refine wp_scope_jumps 0 (HeadStop w 11) (fun _ _=>0) rfl ?_ ?_
 ·go_wp2_with (go_at_call 144;refine(endless_any _ _).mono ?_;rintro e w' ⟨rfl,rfl⟩;rw[ht])
  go_step3
  exact⟨rfl,rfl,rfl,rfl,rfl⟩
 ·rintro⟨tmps,defers⟩ w' ⟨rfl,rfl,hs,h7⟩
  go_wp2
  simp only[Exit.jump]
  refine bodyPost_ret (results_tmp4 rfl _ _ _) rfl ?_
  simp[hs,No]
theorem head_one (b off k c:Nat)(t:Int)(w:World)(hnc:k+1≤c)(hmax:k+1≤9223372036854775807)(ht:endlessB t=false)(h0:w.cell? ⟨b,off+k,none⟩=some (.int .u8 t)):
 Calls Tryz.prog 162 #[.slice (some ⟨b,off,none⟩) (k+1) c,.int .i64 k] w fun e w'=>e=No 12∧w=w':=by
 have hck: ¬c=k:=by omega
 go_enter Tryz.func162,Tryz.ntmps162
 go_wp2
 refine wp_scope_jumps 0 (HeadStop w 12) (fun _ _=>0) rfl ?_ ?_
 ·go_wp2_with (go_at_call 144;refine(endless_any _ _).mono ?_;rintro e w' ⟨rfl,rfl⟩;rw[ht])
  go_step3
  exact⟨rfl,rfl,rfl,rfl,rfl⟩
 ·rintro⟨tmps,defers⟩ w' ⟨rfl,rfl,hs,h7⟩
  go_wp2
  simp only[Exit.jump]
  refine bodyPost_ret (results_tmp4 rfl _ _ _) rfl ?_
  simp[hs,No]
theorem head_len (b off k m c:Nat)(t f:Int)(w:World)(hm:2≤m)(hnc:k+m≤c)(hmax:k+m≤9223372036854775807)(ht:endlessB t=false)(h0:w.cell? ⟨b,off+k,none⟩=some (.int .u8 t))(h1:w.cell? ⟨b,off+k+1,none⟩=some (.int .u8 f))
 (hf0:0≤f) (hf1:f≤255) (hf:f=128∨130<f):
 Calls Tryz.prog 162 #[.slice (some ⟨b,off,none⟩) (k+m) c,.int .i64 k] w fun e w'=>e=No 13∧w=w':=by
 have hck: ¬c=k:=by omega
 have h128:(f==128)=true∨((f==128)=false∧130<f):=by rcases hf with rfl |h;exact .inl rfl;exact .inr ⟨by simp;omega,h⟩
 clear hf
 go_enter Tryz.func162,Tryz.ntmps162
 go_wp2
 refine wp_scope_jumps 0 (HeadStop w 13) (fun _ _=>0) rfl ?_ ?_
 ·rcases h128 with hx | ⟨hx,hy⟩
  ·go_wp2_with (go_at_call 144;refine(endless_any _ _).mono ?_;rintro e w' ⟨rfl,rfl⟩;rw[ht])
   go_step3
   exact⟨rfl,rfl,rfl,rfl,rfl⟩
  ·go_wp2_with (go_at_call 144;refine(endless_any _ _).mono ?_;rintro e w' ⟨rfl,rfl⟩;rw[ht])
   go_step3
   exact⟨rfl,rfl,rfl,rfl,rfl⟩
 ·rintro⟨tmps,defers⟩ w' ⟨rfl,rfl,hs,h7⟩
  go_wp2
  simp only[Exit.jump]
  refine bodyPost_ret (results_tmp4 rfl _ _ _) rfl ?_
  simp[hs,No]
theorem fol_s (n:Int)(w:World)(h0:0≤n)(h:n<128):
 Calls Tryz.prog 200 #[.int .u8 n] w fun e w'=>e=.returned (.int .i64 0)∧w=w':=
 (following_any n w h0 (by omega)).mono fun e w' ⟨he,hw⟩=>⟨by rw[he,if_pos h],hw⟩
theorem fol_m (n m:Int)(w:World)(h0:n=128+m)(h1:0≤m)(h:n≤255):
 Calls Tryz.prog 200 #[.int .u8 n] w fun e w'=>e=.returned (.int .i64 m)∧w=w':=
 (following_any n w (by omega) h).mono fun e w' ⟨he,hw⟩=>⟨by rw[he,if_neg (by omega),show n - 128=m by omega],hw⟩
theorem head_s_no (b off k m c:Nat)(t f:Int)(w:World)(hnc:k+m≤c)(hmax:k+m≤9223372036854775807)(ht:endlessB t=false)(h0:w.cell? ⟨b,off+k,none⟩=some (.int .u8 t))(h1:w.cell? ⟨b,off+k+1,none⟩=some (.int .u8 f))
 (hf0:0≤f) (hf1:f<128) (hm:2≤m) (hB:Bys w (some ⟨b,off+k+1,none⟩) 1 [f]) (hx:(m:Int) - 2<f):
 Calls Tryz.prog 162 #[.slice (some ⟨b,off,none⟩) (k+m) c,.int .i64 k] w fun e w'=>e=No 12∧w=w':=by
 have hck: ¬c=k:=by omega
 have hw:widthN f=1:=by simp[widthN,hf1]
 have hne:(f==128)=false:=by simp;omega
 go_enter Tryz.func162,Tryz.ntmps162
 go_wp2
 refine wp_scope_jumps 0 (HeadStop w 12) (fun _ _=>0) rfl ?_ ?_
 ·go_wp2_with (first | (go_at_call 144;refine(endless_any _ _).mono ?_;rintro e w' ⟨rfl,rfl⟩;rw[ht]) | (go_at_call 200;refine(fol_s _ _ hf0 hf1).mono ?_;rintro e w' ⟨rfl,rfl⟩) | (go_at_call 201;refine(length_1 _ _ _ _ hB).mono ?_;rintro e w' ⟨rfl,rfl⟩) | (go_at_call 145;refine(width_any _ _).mono ?_;rintro e w' ⟨rfl,rfl⟩;rw[hw]))
  go_step3
  exact⟨rfl,rfl,rfl,rfl,rfl⟩
 ·rintro⟨tmps,defers⟩ w' ⟨rfl,rfl,hs,h7⟩
  go_wp2
  simp only[Exit.jump]
  refine bodyPost_ret (results_tmp4 rfl _ _ _) rfl ?_
  simp[hs,No]
theorem head_s_ok (b off k m c:Nat)(t f:Int)(w:World)(hnc:k+m≤c)(hmax:k+m≤9223372036854775807)(ht:endlessB t=false)(h0:w.cell? ⟨b,off+k,none⟩=some (.int .u8 t))(h1:w.cell? ⟨b,off+k+1,none⟩=some (.int .u8 f))
 (hf0:0≤f) (hf1:f<128) (hm:2≤m) (hB:Bys w (some ⟨b,off+k+1,none⟩) 1 [f]) (hx:f≤(m:Int) - 2):
 Calls Tryz.prog 162 #[.slice (some ⟨b,off,none⟩) (k+m) c,.int .i64 k] w fun e w'=>e=Yes t (k+2) (k+2+f)∧w=w':=by
 have hck: ¬c=k:=by omega
 have hw:widthN f=1:=by simp[widthN,hf1]
 have hne:(f==128)=false:=by simp;omega
 go_enter Tryz.func162,Tryz.ntmps162
 go_wp2
 go_step3
 go_wp2_with (first | (go_at_call 144;refine(endless_any _ _).mono ?_;rintro e w' ⟨rfl,rfl⟩;rw[ht]) | (go_at_call 200;refine(fol_s _ _ hf0 hf1).mono ?_;rintro e w' ⟨rfl,rfl⟩) | (go_at_call 201;refine(length_1 _ _ _ _ hB).mono ?_;rintro e w' ⟨rfl,rfl⟩) | (go_at_call 145;refine(width_any _ _).mono ?_;rintro e w' ⟨rfl,rfl⟩;rw[hw]))
 rw[Exit.noGoto_ret]
 refine bodyPost_ret (results_tmp4 rfl _ _ _) rfl ?_
 exact⟨rfl,rfl⟩
end Go.Proofs.YtkjkhoglkpepiaaGreatDoor.tlvd
namespace Go.Proofs.YtkjkhoglkpepiaaGreatDoor.tlvd
open Go.RowKit tlvc
theorem head_m_cut (b off k m c:Nat)(t:Int)(w:World)(hnc:k+m≤c)(hmax:k+m≤9223372036854775807)(ht:endlessB t=false)(h0:w.cell? ⟨b,off+k,none⟩=some (.int .u8 t))(h1:w.cell? ⟨b,off+k+1,none⟩=some (.int .u8 129))
 (hm:m=2):
 Calls Tryz.prog 162 #[.slice (some ⟨b,off,none⟩) (k+m) c,.int .i64 k] w fun e w'=>e=No 12∧w=w':=by
 have hck: ¬c=k:=by omega
 subst hm
 go_enter Tryz.func162,Tryz.ntmps162
 go_wp2
 refine wp_scope_jumps 0 (HeadStop w 12) (fun _ _=>0) rfl ?_ ?_
 ·go_wp2_with (first | (go_at_call 144;refine(endless_any _ _).mono ?_;rintro e w' ⟨rfl,rfl⟩;rw[ht]) | (go_at_call 200;refine(fol_m 129 1 _ (by decide) (by decide) (by decide)).mono ?_;rintro e w' ⟨rfl,rfl⟩))
  go_step3
  exact⟨rfl,rfl,rfl,rfl,rfl⟩
 ·rintro⟨tmps,defers⟩ w' ⟨rfl,rfl,hs,h7⟩
  go_wp2
  simp only[Exit.jump]
  refine bodyPost_ret (results_tmp4 rfl _ _ _) rfl ?_
  simp[hs,No]
theorem head_m_long (b off k m c:Nat)(t x:Int)(w:World)(hnc:k+m≤c)(hmax:k+m≤9223372036854775807)(ht:endlessB t=false)(h0:w.cell? ⟨b,off+k,none⟩=some (.int .u8 t))(h1:w.cell? ⟨b,off+k+1,none⟩=some (.int .u8 129))
 (hm:3≤m) (hx0:0≤x) (hx1:x≤255) (hB:Bys w (some ⟨b,off+k+1,none⟩) 2 [129,x]) (hx:x<128):
 Calls Tryz.prog 162 #[.slice (some ⟨b,off,none⟩) (k+m) c,.int .i64 k] w fun e w'=>e=No 13∧w=w':=by
 have hck: ¬c=k:=by omega
 have hw:widthN x=1:=by simp[widthN,hx]
 go_enter Tryz.func162,Tryz.ntmps162
 go_wp2
 refine wp_scope_jumps 0 (HeadStop w 13) (fun _ _=>0) rfl ?_ ?_
 ·go_wp2_with (first | (go_at_call 144;refine(endless_any _ _).mono ?_;rintro e w' ⟨rfl,rfl⟩;rw[ht]) | (go_at_call 200;refine(fol_m 129 1 _ (by decide) (by decide) (by decide)).mono ?_;rintro e w' ⟨rfl,rfl⟩) | (go_at_call 201;refine(length_2 _ _ _ _ _ (by omega) hB).mono ?_;rintro e w' ⟨rfl,rfl⟩) | (go_at_call 145;refine(width_any _ _).mono ?_;rintro e w' ⟨rfl,rfl⟩;rw[hw]))
  go_step3
  exact⟨rfl,rfl,rfl,rfl,rfl⟩
 ·rintro⟨tmps,defers⟩ w' ⟨rfl,rfl,hs,h7⟩
  go_wp2
  simp only[Exit.jump]
  refine bodyPost_ret (results_tmp4 rfl _ _ _) rfl ?_
  simp[hs,No]
theorem head_m_no (b off k m c:Nat)(t x:Int)(w:World)(hnc:k+m≤c)(hmax:k+m≤9223372036854775807)(ht:endlessB t=false)(h0:w.cell? ⟨b,off+k,none⟩=some (.int .u8 t))(h1:w.cell? ⟨b,off+k+1,none⟩=some (.int .u8 129))
 (hm:3≤m) (hx0:0≤x) (hx1:x≤255) (hB:Bys w (some ⟨b,off+k+1,none⟩) 2 [129,x]) (hx:128≤x) (hy:(m:Int) - 3<x):
 Calls Tryz.prog 162 #[.slice (some ⟨b,off,none⟩) (k+m) c,.int .i64 k] w fun e w'=>e=No 12∧w=w':=by
 have hck: ¬c=k:=by omega
 have hw:widthN x=2:=by simp[widthN,hx1];omega
 go_enter Tryz.func162,Tryz.ntmps162
 go_wp2
 refine wp_scope_jumps 0 (HeadStop w 12) (fun _ _=>0) rfl ?_ ?_
 ·go_wp2_with (first | (go_at_call 144;refine(endless_any _ _).mono ?_;rintro e w' ⟨rfl,rfl⟩;rw[ht]) | (go_at_call 200;refine(fol_m 129 1 _ (by decide) (by decide) (by decide)).mono ?_;rintro e w' ⟨rfl,rfl⟩) | (go_at_call 201;refine(length_2 _ _ _ _ _ (by omega) hB).mono ?_;rintro e w' ⟨rfl,rfl⟩) | (go_at_call 145;refine(width_any _ _).mono ?_;rintro e w' ⟨rfl,rfl⟩;rw[hw]))
  go_step3
  exact⟨rfl,rfl,rfl,rfl,rfl⟩
 ·rintro⟨tmps,defers⟩ w' ⟨rfl,rfl,hs,h7⟩
  go_wp2
  simp only[Exit.jump]
  refine bodyPost_ret (results_tmp4 rfl _ _ _) rfl ?_
  simp[hs,No]
theorem head_m_ok (b off k m c:Nat)(t x:Int)(w:World)(hnc:k+m≤c)(hmax:k+m≤9223372036854775807)(ht:endlessB t=false)(h0:w.cell? ⟨b,off+k,none⟩=some (.int .u8 t))(h1:w.cell? ⟨b,off+k+1,none⟩=some (.int .u8 129))
 (hm:3≤m) (hx0:0≤x) (hx1:x≤255) (hB:Bys w (some ⟨b,off+k+1,none⟩) 2 [129,x]) (hx:128≤x) (hy:x≤(m:Int) - 3):
 Calls Tryz.prog 162 #[.slice (some ⟨b,off,none⟩) (k+m) c,.int .i64 k] w fun e w'=>e=Yes t (k+3) (k+3+x)∧w=w':=by
 have hck: ¬c=k:=by omega
 have hw:widthN x=2:=by simp[widthN,hx1];omega
 go_enter Tryz.func162,Tryz.ntmps162
 go_wp2
 go_step3
 go_wp2_with (first | (go_at_call 144;refine(endless_any _ _).mono ?_;rintro e w' ⟨rfl,rfl⟩;rw[ht]) | (go_at_call 200;refine(fol_m 129 1 _ (by decide) (by decide) (by decide)).mono ?_;rintro e w' ⟨rfl,rfl⟩) | (go_at_call 201;refine(length_2 _ _ _ _ _ (by omega) hB).mono ?_;rintro e w' ⟨rfl,rfl⟩) | (go_at_call 145;refine(width_any _ _).mono ?_;rintro e w' ⟨rfl,rfl⟩;rw[hw]))
 rw[Exit.noGoto_ret]
 refine bodyPost_ret (results_tmp4 rfl _ _ _) rfl ?_
 exact⟨rfl,rfl⟩
theorem head_l_cut (b off k m c:Nat)(t:Int)(w:World)(hnc:k+m≤c)(hmax:k+m≤9223372036854775807)(ht:endlessB t=false)(h0:w.cell? ⟨b,off+k,none⟩=some (.int .u8 t))(h1:w.cell? ⟨b,off+k+1,none⟩=some (.int .u8 130))
 (hm0:2≤m) (hm:m≤3):
 Calls Tryz.prog 162 #[.slice (some ⟨b,off,none⟩) (k+m) c,.int .i64 k] w fun e w'=>e=No 12∧w=w':=by
 have hck: ¬c=k:=by omega
 go_enter Tryz.func162,Tryz.ntmps162
 go_wp2
 refine wp_scope_jumps 0 (HeadStop w 12) (fun _ _=>0) rfl ?_ ?_
 ·go_wp2_with (first | (go_at_call 144;refine(endless_any _ _).mono ?_;rintro e w' ⟨rfl,rfl⟩;rw[ht]) | (go_at_call 200;refine(fol_m 130 2 _ (by decide) (by decide) (by decide)).mono ?_;rintro e w' ⟨rfl,rfl⟩))
  go_step3
  exact⟨rfl,rfl,rfl,rfl,rfl⟩
 ·rintro⟨tmps,defers⟩ w' ⟨rfl,rfl,hs,h7⟩
  go_wp2
  simp only[Exit.jump]
  refine bodyPost_ret (results_tmp4 rfl _ _ _) rfl ?_
  simp[hs,No]
theorem head_l_long (b off k m c:Nat)(t x y:Int)(w:World)(hnc:k+m≤c)(hmax:k+m≤9223372036854775807)(ht:endlessB t=false)(h0:w.cell? ⟨b,off+k,none⟩=some (.int .u8 t))(h1:w.cell? ⟨b,off+k+1,none⟩=some (.int .u8 130))
 (hm:4≤m) (hx0:0≤x) (hx1:x≤255) (hy0:0≤y) (hy1:y≤255) (hB:Bys w (some ⟨b,off+k+1,none⟩) 3 [130,x,y]) (hx:x*256+y<256):
 Calls Tryz.prog 162 #[.slice (some ⟨b,off,none⟩) (k+m) c,.int .i64 k] w fun e w'=>e=No 13∧w=w':=by
 have hck: ¬c=k:=by omega
 obtain⟨v,hw,hv1,hv2⟩: ∃v:Int,widthN (x*256+y)=v∧1≤v∧v≤2:=⟨_,rfl,by unfold widthN;split;omega;split<;>omega,by unfold widthN;split;omega;rw[if_pos (by omega)];omega⟩
 go_enter Tryz.func162,Tryz.ntmps162
 go_wp2
 refine wp_scope_jumps 0 (HeadStop w 13) (fun _ _=>0) rfl ?_ ?_
 ·go_wp2_with (first | (go_at_call 144;refine(endless_any _ _).mono ?_;rintro e w' ⟨rfl,rfl⟩;rw[ht]) | (go_at_call 200;refine(fol_m 130 2 _ (by decide) (by decide) (by decide)).mono ?_;rintro e w' ⟨rfl,rfl⟩) | (go_at_call 201;refine(length_3 _ _ _ _ _ _ (by omega) hB).mono ?_;rintro e w' ⟨rfl,rfl⟩) | (go_at_call 145;refine(width_any _ _).mono ?_;rintro e w' ⟨rfl,rfl⟩;rw[hw]))
  go_step3
  exact⟨rfl,rfl,rfl,rfl,rfl⟩
 ·rintro⟨tmps,defers⟩ w' ⟨rfl,rfl,hs,h7⟩
  go_wp2
  simp only[Exit.jump]
  refine bodyPost_ret (results_tmp4 rfl _ _ _) rfl ?_
  simp[hs,No]
theorem head_l_no (b off k m c:Nat)(t x y:Int)(w:World)(hnc:k+m≤c)(hmax:k+m≤9223372036854775807)(ht:endlessB t=false)(h0:w.cell? ⟨b,off+k,none⟩=some (.int .u8 t))(h1:w.cell? ⟨b,off+k+1,none⟩=some (.int .u8 130))
 (hm:4≤m) (hx0:0≤x) (hx1:x≤255) (hy0:0≤y) (hy1:y≤255) (hB:Bys w (some ⟨b,off+k+1,none⟩) 3 [130,x,y]) (hx:1≤x) (hz:(m:Int) - 4<x*256+y):
 Calls Tryz.prog 162 #[.slice (some ⟨b,off,none⟩) (k+m) c,.int .i64 k] w fun e w'=>e=No 12∧w=w':=by
 have hck: ¬c=k:=by omega
 have hw:widthN (x*256+y)=3:=by unfold widthN;rw[if_neg (by omega),if_neg (by omega)]
 go_enter Tryz.func162,Tryz.ntmps162
 go_wp2
 refine wp_scope_jumps 0 (HeadStop w 12) (fun _ _=>0) rfl ?_ ?_
 ·go_wp2_with (first | (go_at_call 144;refine(endless_any _ _).mono ?_;rintro e w' ⟨rfl,rfl⟩;rw[ht]) | (go_at_call 200;refine(fol_m 130 2 _ (by decide) (by decide) (by decide)).mono ?_;rintro e w' ⟨rfl,rfl⟩) | (go_at_call 201;refine(length_3 _ _ _ _ _ _ (by omega) hB).mono ?_;rintro e w' ⟨rfl,rfl⟩) | (go_at_call 145;refine(width_any _ _).mono ?_;rintro e w' ⟨rfl,rfl⟩;rw[hw]))
  go_step3
  exact⟨rfl,rfl,rfl,rfl,rfl⟩
 ·rintro⟨tmps,defers⟩ w' ⟨rfl,rfl,hs,h7⟩
  go_wp2
  simp only[Exit.jump]
  refine bodyPost_ret (results_tmp4 rfl _ _ _) rfl ?_
  simp[hs,No]
theorem head_l_ok (b off k m c:Nat)(t x y:Int)(w:World)(hnc:k+m≤c)(hmax:k+m≤9223372036854775807)(ht:endlessB t=false)(h0:w.cell? ⟨b,off+k,none⟩=some (.int .u8 t))(h1:w.cell? ⟨b,off+k+1,none⟩=some (.int .u8 130))
 (hm:4≤m) (hx0:0≤x) (hx1:x≤255) (hy0:0≤y) (hy1:y≤255) (hB:Bys w (some ⟨b,off+k+1,none⟩) 3 [130,x,y]) (hx:1≤x) (hz:x*256+y≤(m:Int) - 4):
 Calls Tryz.prog 162 #[.slice (some ⟨b,off,none⟩) (k+m) c,.int .i64 k] w fun e w'=>e=Yes t (k+4) (k+4+ (x*256+y))∧w=w':=by
 have hck: ¬c=k:=by omega
 have hw:widthN (x*256+y)=3:=by unfold widthN;rw[if_neg (by omega),if_neg (by omega)]
 go_enter Tryz.func162,Tryz.ntmps162
 go_wp2
 go_step3
 go_wp2_with (first | (go_at_call 144;refine(endless_any _ _).mono ?_;rintro e w' ⟨rfl,rfl⟩;rw[ht]) | (go_at_call 200;refine(fol_m 130 2 _ (by decide) (by decide) (by decide)).mono ?_;rintro e w' ⟨rfl,rfl⟩) | (go_at_call 201;refine(length_3 _ _ _ _ _ _ (by omega) hB).mono ?_;rintro e w' ⟨rfl,rfl⟩) | (go_at_call 145;refine(width_any _ _).mono ?_;rintro e w' ⟨rfl,rfl⟩;rw[hw]))
 rw[Exit.noGoto_ret]
 refine bodyPost_ret (results_tmp4 rfl _ _ _) rfl ?_
 exact⟨rfl,rfl⟩
end Go.Proofs.YtkjkhoglkpepiaaGreatDoor.tlvd
namespace Go.Proofs.YtkjkhoglkpepiaaGreatDoor.tlvd
open Go.RowKit tlvc
def headF:List Int→Int × Int × Int × Int
 | []=>(12,0,0,0)
 | [t]=>if endlessB t=true then (11,0,0,0) else (12,0,0,0)
 |t::f::r=>
  if endlessB t=true then (11,0,0,0)
  else if f=128∨130<f then (13,0,0,0)
  else if f<128 then (if (r.length:Int)<f then (12,0,0,0) else (0,t,2,f))
  else if f=129 then
   match r with
   | []=>(12,0,0,0)
   |x::r2=>if x<128 then (13,0,0,0) else if (r2.length:Int)<x then (12,0,0,0) else (0,t,3,x)
  else
   match r with
   |x::y::r2=>if x*256+y<256 then (13,0,0,0) else if (r2.length:Int)<x*256+y then (12,0,0,0) else (0,t,4,x*256+y)
   |_=>(12,0,0,0)
theorem headF_one (t:Int):headF [t]=if endlessB t=true then (11,0,0,0) else (12,0,0,0):=rfl
theorem headF_tag (t f:Int)(r:List Int)(h:endlessB t=true):headF (t::f::r)=(11,0,0,0):=by simp[headF,h]
theorem headF_len (t f:Int)(r:List Int)(h: ¬endlessB t=true)(hf:f=128∨130<f):headF (t::f::r)=(13,0,0,0):=by simp[headF,h,hf]
theorem headF_s (t f:Int)(r:List Int)(h: ¬endlessB t=true)(hf:f<128):headF (t::f::r)=if (r.length:Int)<f then (12,0,0,0) else (0,t,2,f):=by
 simp[headF,h,hf,show¬(f=128∨130<f) by omega]
theorem headF_m0 (t:Int)(h: ¬endlessB t=true):headF [t,129]=(12,0,0,0):=by simp[headF,h]
theorem headF_m (t x:Int)(r:List Int)(h: ¬endlessB t=true):headF (t::129::x::r)=if x<128 then (13,0,0,0) else if (r.length:Int)<x then (12,0,0,0) else (0,t,3,x):=by simp[headF,h]
theorem headF_l0 (t:Int)(h: ¬endlessB t=true):headF [t,130]=(12,0,0,0):=by simp[headF,h]
theorem headF_l1 (t x:Int)(h: ¬endlessB t=true):headF [t,130,x]=(12,0,0,0):=by simp[headF,h]
theorem headF_l (t x y:Int)(r:List Int)(h: ¬endlessB t=true):headF (t::130::x::y::r)=if x*256+y<256 then (13,0,0,0) else if (r.length:Int)<x*256+y then (12,0,0,0) else (0,t,4,x*256+y):=by simp[headF,h]
def headR (a:Int)(r:Int × Int × Int × Int):Ending:=if r.1=0 then Yes r.2.1 (a+r.2.2.1) (a+r.2.2.1+r.2.2.2) else No r.1
def headE (a:Int)(xs:List Int):Ending:=if a<0∨(xs.length:Int)<a then No 1 else headR a (headF (xs.drop a.toNat))
structure Ways (F:FuncId) (R:World→World→Prop):Prop where
 arg: ∀(A:Option Addr) (n c:Nat) (a:Int) (w:World),(a<0∨(n:Int)<a)→Calls Tryz.prog F #[.slice A n c,.int .i64 a] w fun e w'=>e=No 1∧R w w'
 endd: ∀(A:Option Addr) (n c:Nat) (w:World),n≤c→n≤maxLen→Calls Tryz.prog F #[.slice A n c,.int .i64 n] w fun e w'=>e=No 12∧R w w'
 tag: ∀(b off k m c:Nat) (t:Int) (w:World),1≤m→k+m≤c→k+m≤9223372036854775807→endlessB t=true→(0≤t∧t≤255)→w.cell? ⟨b,off+k,none⟩=some (.int .u8 t)→
  Calls Tryz.prog F #[.slice (some ⟨b,off,none⟩) (k+m) c,.int .i64 k] w fun e w'=>e=No 11∧R w w'
 one: ∀(b off k c:Nat) (t:Int) (w:World),k+1≤c→k+1≤9223372036854775807→endlessB t=false→(0≤t∧t≤255)→w.cell? ⟨b,off+k,none⟩=some (.int .u8 t)→
  Calls Tryz.prog F #[.slice (some ⟨b,off,none⟩) (k+1) c,.int .i64 k] w fun e w'=>e=No 12∧R w w'
 len: ∀(b off k m c:Nat) (t f:Int) (w:World),2≤m→k+m≤c→k+m≤9223372036854775807→endlessB t=false→(0≤t∧t≤255)→w.cell? ⟨b,off+k,none⟩=some (.int .u8 t)→w.cell? ⟨b,off+k+1,none⟩=some (.int .u8 f)→
  0≤f→f≤255→(f=128∨130<f)→Calls Tryz.prog F #[.slice (some ⟨b,off,none⟩) (k+m) c,.int .i64 k] w fun e w'=>e=No 13∧R w w'
 s_no: ∀(b off k m c:Nat) (t f:Int) (w:World),k+m≤c→k+m≤9223372036854775807→endlessB t=false→(0≤t∧t≤255)→w.cell? ⟨b,off+k,none⟩=some (.int .u8 t)→w.cell? ⟨b,off+k+1,none⟩=some (.int .u8 f)→
  0≤f→f<128→2≤m→Bys w (some ⟨b,off+k+1,none⟩) 1 [f]→(m:Int) - 2<f→Calls Tryz.prog F #[.slice (some ⟨b,off,none⟩) (k+m) c,.int .i64 k] w fun e w'=>e=No 12∧R w w'
 s_ok: ∀(b off k m c:Nat) (t f:Int) (w:World),k+m≤c→k+m≤9223372036854775807→endlessB t=false→(0≤t∧t≤255)→w.cell? ⟨b,off+k,none⟩=some (.int .u8 t)→w.cell? ⟨b,off+k+1,none⟩=some (.int .u8 f)→
  0≤f→f<128→2≤m→Bys w (some ⟨b,off+k+1,none⟩) 1 [f]→f≤(m:Int) - 2→Calls Tryz.prog F #[.slice (some ⟨b,off,none⟩) (k+m) c,.int .i64 k] w fun e w'=>e=Yes t (k+2) (k+2+f)∧R w w'
 m_cut: ∀(b off k m c:Nat) (t:Int) (w:World),k+m≤c→k+m≤9223372036854775807→endlessB t=false→(0≤t∧t≤255)→w.cell? ⟨b,off+k,none⟩=some (.int .u8 t)→w.cell? ⟨b,off+k+1,none⟩=some (.int .u8 129)→
  m=2→Calls Tryz.prog F #[.slice (some ⟨b,off,none⟩) (k+m) c,.int .i64 k] w fun e w'=>e=No 12∧R w w'
 m_long: ∀(b off k m c:Nat) (t x:Int) (w:World),k+m≤c→k+m≤9223372036854775807→endlessB t=false→(0≤t∧t≤255)→w.cell? ⟨b,off+k,none⟩=some (.int .u8 t)→w.cell? ⟨b,off+k+1,none⟩=some (.int .u8 129)→
  3≤m→0≤x→x≤255→Bys w (some ⟨b,off+k+1,none⟩) 2 [129,x]→x<128→Calls Tryz.prog F #[.slice (some ⟨b,off,none⟩) (k+m) c,.int .i64 k] w fun e w'=>e=No 13∧R w w'
 m_no: ∀(b off k m c:Nat) (t x:Int) (w:World),k+m≤c→k+m≤9223372036854775807→endlessB t=false→(0≤t∧t≤255)→w.cell? ⟨b,off+k,none⟩=some (.int .u8 t)→w.cell? ⟨b,off+k+1,none⟩=some (.int .u8 129)→
  3≤m→0≤x→x≤255→Bys w (some ⟨b,off+k+1,none⟩) 2 [129,x]→128≤x→(m:Int) - 3<x→Calls Tryz.prog F #[.slice (some ⟨b,off,none⟩) (k+m) c,.int .i64 k] w fun e w'=>e=No 12∧R w w'
 m_ok: ∀(b off k m c:Nat) (t x:Int) (w:World),k+m≤c→k+m≤9223372036854775807→endlessB t=false→(0≤t∧t≤255)→w.cell? ⟨b,off+k,none⟩=some (.int .u8 t)→w.cell? ⟨b,off+k+1,none⟩=some (.int .u8 129)→
  3≤m→0≤x→x≤255→Bys w (some ⟨b,off+k+1,none⟩) 2 [129,x]→128≤x→x≤(m:Int) - 3→Calls Tryz.prog F #[.slice (some ⟨b,off,none⟩) (k+m) c,.int .i64 k] w fun e w'=>e=Yes t (k+3) (k+3+x)∧R w w'
 l_cut: ∀(b off k m c:Nat) (t:Int) (w:World),k+m≤c→k+m≤9223372036854775807→endlessB t=false→(0≤t∧t≤255)→w.cell? ⟨b,off+k,none⟩=some (.int .u8 t)→w.cell? ⟨b,off+k+1,none⟩=some (.int .u8 130)→
  2≤m→m≤3→Calls Tryz.prog F #[.slice (some ⟨b,off,none⟩) (k+m) c,.int .i64 k] w fun e w'=>e=No 12∧R w w'
 l_long: ∀(b off k m c:Nat) (t x y:Int) (w:World),k+m≤c→k+m≤9223372036854775807→endlessB t=false→(0≤t∧t≤255)→w.cell? ⟨b,off+k,none⟩=some (.int .u8 t)→w.cell? ⟨b,off+k+1,none⟩=some (.int .u8 130)→
  4≤m→0≤x→x≤255→0≤y→y≤255→Bys w (some ⟨b,off+k+1,none⟩) 3 [130,x,y]→x*256+y<256→Calls Tryz.prog F #[.slice (some ⟨b,off,none⟩) (k+m) c,.int .i64 k] w fun e w'=>e=No 13∧R w w'
 l_no: ∀(b off k m c:Nat) (t x y:Int) (w:World),k+m≤c→k+m≤9223372036854775807→endlessB t=false→(0≤t∧t≤255)→w.cell? ⟨b,off+k,none⟩=some (.int .u8 t)→w.cell? ⟨b,off+k+1,none⟩=some (.int .u8 130)→
  4≤m→0≤x→x≤255→0≤y→y≤255→Bys w (some ⟨b,off+k+1,none⟩) 3 [130,x,y]→1≤x→(m:Int) - 4<x*256+y→Calls Tryz.prog F #[.slice (some ⟨b,off,none⟩) (k+m) c,.int .i64 k] w fun e w'=>e=No 12∧R w w'
 l_ok: ∀(b off k m c:Nat) (t x y:Int) (w:World),k+m≤c→k+m≤9223372036854775807→endlessB t=false→(0≤t∧t≤255)→w.cell? ⟨b,off+k,none⟩=some (.int .u8 t)→w.cell? ⟨b,off+k+1,none⟩=some (.int .u8 130)→
  4≤m→0≤x→x≤255→0≤y→y≤255→Bys w (some ⟨b,off+k+1,none⟩) 3 [130,x,y]→1≤x→x*256+y≤(m:Int) - 4→Calls Tryz.prog F #[.slice (some ⟨b,off,none⟩) (k+m) c,.int .i64 k] w fun e w'=>e=Yes t (k+4) (k+4+ (x*256+y))∧R w w'
theorem bys_at {w:World}{A:Option Addr}{n k:Nat}{xs ys:List Int}(h:Bys w A n xs)(hy:ys=xs.drop k)(hk:k<n):
 ∃b off,A=some ⟨b,off,none⟩∧b<w.heap.size∧∀j,j<ys.length→w.cell? ⟨b,off+k+j,none⟩=some (.int .u8 (ys.getD j 0)):=by
 obtain⟨b,off,hA,hb,hc⟩:=h.2.2 (by omega)
 refine⟨b,off,hA,hb,fun j hj=>?_⟩
 have hl:=h.1
 subst hy
 rw[List.length_drop] at hj
 rw[Nat.add_assoc,hc (k+j) (by omega)]
 simp[List.getD_eq_getElem?_getD,List.getElem?_drop]
theorem bys_mid {w:World}{b off n:Nat}{ys:List Int}(hb:b<w.heap.size)(hf:Fit ys)(hl:ys.length=n)(hc: ∀j,j<n→w.cell? ⟨b,off+j,none⟩=some (.int .u8 (ys.getD j 0))):Bys w (some ⟨b,off,none⟩) n ys:=
 ⟨hl,hf,fun _=>⟨b,off,rfl,hb,hc⟩⟩
theorem head_of {F:FuncId}{R:World→World→Prop}(W:Ways F R)(A:Option Addr)(n c:Nat)(xs:List Int)(a:Int)(w:World)(hb:Bys w A n xs)(hnc:n≤c)(hcm:c≤maxLen):
 Calls Tryz.prog F #[.slice A n c,.int .i64 a] w fun e w'=>e=headE a xs∧R w w':=by
 have hl:=hb.len
 by_cases ha:a<0∨(n:Int)<a
 ·exact(W.arg A n c a w ha).mono fun e w' ⟨he,hw⟩=>⟨by rw[he,headE,if_pos (by rw[hl];exact ha)],hw⟩
 ·obtain⟨k,rfl⟩:=Int.eq_ofNat_of_zero_le (show 0≤a by omega)
  have hE:headE k xs=headR k (headF (xs.drop k)):=by rw[headE,if_neg (by rw[hl];exact ha),Int.toNat_natCast]
  rw[hE]
  clear hE
  by_cases hk:k=n
  ·subst hk
   rw[List.drop_of_length_le (by omega)]
   exact W.endd A k c w hnc (by omega)
  ·obtain⟨ys,hys⟩: ∃ys,ys=xs.drop k:=⟨_,rfl⟩
   obtain⟨b,off,rfl,hbs,hc⟩:=bys_at hb hys (by omega)
   have hfit:Fit ys:=hys▸hb.fit.drop k
   rw[←hys]
   obtain⟨m,rfl⟩: ∃m,n=k+m:=⟨n - k,by omega⟩
   have hm:ys.length=m:=by rw[hys,List.length_drop];omega
   have hmax:k+m≤9223372036854775807:=by unfold maxLen at hcm;omega
   clear hys hb hl
   match ys,hm,hc,hfit with
   | [],hm,_,_=>simp at hm;omega
   | [t],hm,hc,hfit=>
    have h0:=hc 0 (by simp)
    simp only[List.length_singleton] at hm
    subst hm
    have htf:=hfit t (by simp)
    by_cases ht:endlessB t=true
    ·rw[headF_one,if_pos ht]
     exact W.tag b off k 1 c t w (by omega) hnc hmax ht htf (by simpa using h0)
    ·rw[headF_one,if_neg ht]
     exact W.one b off k c t w hnc hmax (by simpa using ht) htf (by simpa using h0)
   |t::f::r,hm,hc,hfit=>
    have h0:=hc 0 (by simp)
    have h1:=hc 1 (by simp)
    have htf:=hfit t (by simp)
    have hff:=hfit f (by simp)
    simp only[List.length_cons] at hm
    by_cases ht:endlessB t=true
    ·rw[headF_tag t f r ht]
     exact W.tag b off k m c t w (by omega) hnc hmax ht htf (by simpa using h0)
    ·have ht':endlessB t=false:=by simpa using ht
     by_cases hf:f=128∨130<f
     ·rw[headF_len t f r ht hf]
      exact W.len b off k m c t f w (by omega) hnc hmax ht' htf (by simpa using h0) (by simpa using h1) hff.1 hff.2 hf
     ·by_cases hs:f<128
      ·rw[headF_s t f r ht hs]
       have hB:Bys w (some ⟨b,off+k+1,none⟩) 1 [f]:=bys_mid hbs (by intro x hx;simp at hx;omega) rfl (by
        intro j hj
        obtain rfl:j=0:=by omega
        simpa using h1)
       by_cases hx:(r.length:Int)<f
       ·rw[if_pos hx]
        exact W.s_no b off k m c t f w hnc hmax ht' htf (by simpa using h0) (by simpa using h1) hff.1 hs (by omega) hB (by omega)
       ·rw[if_neg hx]
        refine(W.s_ok b off k m c t f w hnc hmax ht' htf (by simpa using h0) (by simpa using h1) hff.1 hs (by omega) hB (by omega)).mono fun e w' ⟨he,hw⟩=>⟨?_,hw⟩
        rw[he];rfl
      ·by_cases h9:f=129
       ·subst h9
        match r,hm,hc,hfit with
        | [],hm,_,_=>
         rw[headF_m0 t ht]
         exact W.m_cut b off k m c t w hnc hmax ht' htf (by simpa using h0) (by simpa using h1) (by simp at hm;omega)
        |x::r2,hm,hc,hfit=>
         have hxf:=hfit x (by simp)
         have h2:=hc 2 (by simp)
         simp only[List.length_cons] at hm
         have hB:Bys w (some ⟨b,off+k+1,none⟩) 2 [129,x]:=bys_mid hbs (by intro z hz;simp at hz;omega) rfl (by
          intro j hj
          match j,hj with
          |0,_=>simpa using h1
          |1,_=>simpa[Nat.add_assoc] using h2)
         rw[headF_m t x r2 ht]
         by_cases hx:x<128
         ·rw[if_pos hx]
          exact W.m_long b off k m c t x w hnc hmax ht' htf (by simpa using h0) (by simpa using h1) (by omega) hxf.1 hxf.2 hB hx
         ·rw[if_neg hx]
          by_cases hy:(r2.length:Int)<x
          ·rw[if_pos hy]
           exact W.m_no b off k m c t x w hnc hmax ht' htf (by simpa using h0) (by simpa using h1) (by omega) hxf.1 hxf.2 hB (by omega) (by omega)
          ·rw[if_neg hy]
           refine(W.m_ok b off k m c t x w hnc hmax ht' htf (by simpa using h0) (by simpa using h1) (by omega) hxf.1 hxf.2 hB (by omega) (by omega)).mono fun e w' ⟨he,hw⟩=>⟨?_,hw⟩
           rw[he];rfl
       ·obtain rfl:f=130:=by omega
        match r,hm,hc,hfit with
        | [],hm,_,_=>
         rw[headF_l0 t ht]
         exact W.l_cut b off k m c t w hnc hmax ht' htf (by simpa using h0) (by simpa using h1) (by simp at hm;omega) (by simp at hm;omega)
        | [x],hm,_,_=>
         rw[headF_l1 t x ht]
         exact W.l_cut b off k m c t w hnc hmax ht' htf (by simpa using h0) (by simpa using h1) (by simp at hm;omega) (by simp at hm;omega)
        |x::y::r2,hm,hc,hfit=>
         have hxf:=hfit x (by simp)
         have hyf:=hfit y (by simp)
         have h2:=hc 2 (by simp)
         have h3:=hc 3 (by simp)
         simp only[List.length_cons] at hm
         have hB:Bys w (some ⟨b,off+k+1,none⟩) 3 [130,x,y]:=bys_mid hbs (by intro z hz;simp at hz;omega) rfl (by
          intro j hj
          match j,hj with
          |0,_=>simpa using h1
          |1,_=>simpa[Nat.add_assoc] using h2
          |2,_=>simpa[Nat.add_assoc] using h3)
         rw[headF_l t x y r2 ht]
         by_cases hx:x*256+y<256
         ·rw[if_pos hx]
          exact W.l_long b off k m c t x y w hnc hmax ht' htf (by simpa using h0) (by simpa using h1) (by omega) hxf.1 hxf.2 hyf.1 hyf.2 hB hx
         ·rw[if_neg hx]
          by_cases hy:(r2.length:Int)<x*256+y
          ·rw[if_pos hy]
           exact W.l_no b off k m c t x y w hnc hmax ht' htf (by simpa using h0) (by simpa using h1) (by omega) hxf.1 hxf.2 hyf.1 hyf.2 hB (by omega) (by omega)
          ·rw[if_neg hy]
           refine(W.l_ok b off k m c t x y w hnc hmax ht' htf (by simpa using h0) (by simpa using h1) (by omega) hxf.1 hxf.2 hyf.1 hyf.2 hB (by omega) (by omega)).mono fun e w' ⟨he,hw⟩=>⟨?_,hw⟩
           rw[he];rfl
theorem head_ways:Ways 162 (fun w w'=>w=w') where
 arg:=head_arg
 endd:=head_end
 tag:=fun b off k m c t w hm hnc hmax ht _ h0=>head_tag b off k m c t w hm hnc hmax ht h0
 one:=fun b off k c t w hnc hmax ht _ h0=>head_one b off k c t w hnc hmax ht h0
 len:=fun b off k m c t f w hm hnc hmax ht _ h0 h1 hf0 hf1 hf=>head_len b off k m c t f w hm hnc hmax ht h0 h1 hf0 hf1 hf
 s_no:=fun b off k m c t f w hnc hmax ht _=>head_s_no b off k m c t f w hnc hmax ht
 s_ok:=fun b off k m c t f w hnc hmax ht _=>head_s_ok b off k m c t f w hnc hmax ht
 m_cut:=fun b off k m c t  w hnc hmax ht _=>head_m_cut b off k m c t  w hnc hmax ht
 m_long:=fun b off k m c t x w hnc hmax ht _=>head_m_long b off k m c t x w hnc hmax ht
 m_no:=fun b off k m c t x w hnc hmax ht _=>head_m_no b off k m c t x w hnc hmax ht
 m_ok:=fun b off k m c t x w hnc hmax ht _=>head_m_ok b off k m c t x w hnc hmax ht
 l_cut:=fun b off k m c t  w hnc hmax ht _=>head_l_cut b off k m c t  w hnc hmax ht
 l_long:=fun b off k m c t x y w hnc hmax ht _=>head_l_long b off k m c t x y w hnc hmax ht
 l_no:=fun b off k m c t x y w hnc hmax ht _=>head_l_no b off k m c t x y w hnc hmax ht
 l_ok:=fun b off k m c t x y w hnc hmax ht _=>head_l_ok b off k m c t x y w hnc hmax ht
end Go.Proofs.YtkjkhoglkpepiaaGreatDoor.tlvd
namespace Go.Proofs.YtkjkhoglkpepiaaGreatDoor.tlvd
open Go.RowKit tlvc
end Go.Proofs.YtkjkhoglkpepiaaGreatDoor.tlvd
namespace Go.Proofs.YtkjkhoglkpepiaaGreatDoor.tlvd
open Go.RowKit tlvc
theorem below_drewN {B:Nat}{a w:World}(h:Below B a w)(n:Nat):Below B a (w.drewN n):=⟨h.os,h.tape,h.output,h.size,h.block⟩
end Go.Proofs.YtkjkhoglkpepiaaGreatDoor.tlvd
namespace Go.Proofs.YtkjkhoglkpepiaaGreatDoor.tlvd
open Go.RowKit tlvc
theorem str_now {w:World}{A:Option Addr}{n:Nat}{xs:List Int}(h:Bys w A n xs)(c:Nat):
 (convert 34 9 (.slice A n c)).run Tryz.prog w=.ok (.string (strOfNums xs)) w:=
 run_str (P:=Tryz.prog) 34 5 Tryz.underlying34 Tryz.underlying5 A n c xs h 9 Tryz.underlying9
theorem put_drop (t:Int)(xs:List Int)(k:Nat)(h:k=1+ (hdr xs.length).length):(putBytes t xs).drop k=xs:=by
 have e:putBytes t xs=([t]++hdr xs.length)++xs:=rfl
 rw[e]
 exact List.drop_left' (by simp;omega)
def putF (t:Int)(xs:List Int):List Int × Int:=if endlessB t=true then ([],11) else if 65535<xs.length then ([],2) else (putBytes t xs,0)
def PutAll (w:World)(ys:List Int)(er:Int)(e:Ending)(w':World):Prop:=
 ∃A c,e=.returned (.tuple #[.slice A ys.length c,.int .i64 er])∧Bys w' A ys.length ys∧(ys.length≤c∧c≤maxLen)∧(∀b off,A=some ⟨b,off,none⟩→w.heap.size≤b)∧Below w.heap.size w w'
theorem putAll_none (w:World)(n:Int):PutAll w [] n (.returned (.tuple #[.slice none 0 0,.int .i64 n])) w:=
 ⟨none,0,rfl,Bys.nil_ _ _,⟨lr_ _,Nat.zero_le _⟩,(fun _ _ h=>by cases h),br_ _ _⟩
theorem putAll_ok {w w':World}{ys:List Int}{e:Ending}(h:PutPost w ys e w'):PutAll w ys 0 e w':=by
 obtain⟨g,cap,rfl,hown,hb,hbel⟩:=h
 refine⟨_,cap,rfl,hb,⟨own_cap hown,own_max hown⟩,(fun b off h=>?_),hbel⟩
 cases h
 exact(hown.lt g rfl).1
theorem put_all (t:Int)(A:Option Addr)(n c:Nat)(xs:List Int)(w:World)(ht:0≤t∧t≤255)(hb:Bys w A n xs):
 Calls Tryz.prog 65 #[.int .u8 t,.slice A n c] w (PutAll w (putF t xs).1 (putF t xs).2):=by
 have hl:=hb.len
 unfold putF
 by_cases h:endlessB t=true
 ·rw[if_pos h]
  refine(put_tag t A n c w h).mono ?_
  rintro e w' ⟨rfl,rfl⟩
  exact putAll_none w 11
 ·have h':endlessB t=false:=by simpa using h
  rw[if_neg h]
  by_cases hn:65535<n
  ·rw[if_pos (by omega)]
   refine(put_many t A n c w h' hn).mono ?_
   rintro e w' ⟨rfl,rfl⟩
   exact putAll_none w 2
  ·rw[if_neg (by omega)]
   exact(put_ok t A n c xs w h' ht.1 ht.2 (by omega) hb).mono fun _ _ h=>putAll_ok h
theorem refPut_all (t:Int)(A:Option Addr)(n c:Nat)(xs:List Int)(w:World)(ht:0≤t∧t≤255)(hb:Bys w A n xs):
 Calls Tryz.prog 73 #[.int .u8 t,.slice A n c] w (PutAll w (putF t xs).1 (putF t xs).2):=by
 have hl:=hb.len
 unfold putF
 by_cases h:endlessB t=true
 ·rw[if_pos h]
  refine(refPut_tag t A n c w h ht.1 ht.2).mono ?_
  rintro e w' ⟨rfl,rfl⟩
  exact putAll_none w 11
 ·have h':endlessB t=false:=by simpa using h
  rw[if_neg h]
  by_cases hn:65535<n
  ·rw[if_pos (by omega)]
   refine(refPut_many t A n c w h' ht.1 ht.2 hn).mono ?_
   rintro e w' ⟨rfl,rfl⟩
   exact putAll_none w 2
  ·rw[if_neg (by omega)]
   exact(refPut_ok t A n c xs w h' ht.1 ht.2 (by omega) hb).mono fun _ _ h=>putAll_ok h
end Go.Proofs.YtkjkhoglkpepiaaGreatDoor.tlvd
