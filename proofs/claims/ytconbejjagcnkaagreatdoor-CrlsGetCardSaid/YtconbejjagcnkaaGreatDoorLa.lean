/- TlvA tlv.appendLength puts the bytes of a length behind a row of the call's own; conditions: the length is 0 to 65535, the row has fewer than 2^47 - 8 bytes. tlv.Put: what it answers to any tag and any body that reads as bytes: ErrTag, ErrTooMany, or the tag, the length and the body in new memory; nothing that was there is written. The document's own answer to Put (package warderref01): the same bytes, or the same error, as tlv.Put's contract tells. -/
import Derived.Test.YtconbejjagcnkaaGreatDoorChecked
import Derived.WalkKit
import Derived.Below
import Derived.Lib.Hide
import Derived.Test.YtconbejjagcnkaaGreatDoorKa
import Derived.Lib.SlBytesConst
import Derived.WalkMore
import Derived.ScopeJumps
import Derived.Outline
namespace Go.Proofs.YtconbejjagcnkaaGreatDoor.tlvd
open Go.RowKit

def endlessB (t:Int):Bool:=bits BinOp.and IntKind.u8 t 31==31

theorem endless_mod (t:Int)(h0:0≤t)(h255:t≤255):endlessB t=(t%32==31):=by
  have key: ∀k:Fin 256,endlessB (k.val:Int)=((k.val:Int)%32==31):=by decide+kernel
  obtain⟨k,rfl⟩:=Int.eq_ofNat_of_zero_le h0
  exact key ⟨k,by omega⟩

theorem endless_any (t:Int)(w:World):
    Calls Tryz.prog 115 #[.int .u8 t] w fun e w'=>e=.returned (.bool (endlessB t))∧w=w':=by
  go_enter Tryz.func115,Tryz.ntmps115
  go_wp2
  go_ret
  exact⟨rfl,rfl⟩

def widthN (n:Int):Int:=if n<128 then 1 else if n≤255 then 2 else 3

theorem width_any (n:Int)(w:World):
    Calls Tryz.prog 116 #[.int .i64 n] w fun e w'=>e=.returned (.int .i64 (widthN n))∧w=w':=by
  by_cases h1:n<128
  · have:widthN n=1:=by simp[widthN,h1]
    rw[this]
    clear this
    go_enter Tryz.func116,Tryz.ntmps116
    go_wp2
    go_ret
    exact⟨rfl,rfl⟩
  · by_cases h2:n≤255
    · have:widthN n=2:=by simp[widthN,h1,h2]
      rw[this]
      clear this
      go_enter Tryz.func116,Tryz.ntmps116
      go_wp2
      go_ret
      exact⟨rfl,rfl⟩
    · have:widthN n=3:=by simp[widthN,h1,h2]
      rw[this]
      clear this
      go_enter Tryz.func116,Tryz.ntmps116
      go_wp2
      go_ret
      exact⟨rfl,rfl⟩

theorem following_any (n:Int)(w:World)(h0:0≤n)(h255:n≤255):
    Calls Tryz.prog 141 #[.int .u8 n] w fun e w'=>e=.returned (.int .i64 (if n<128 then 0 else n - 128))∧w=w':=by
  by_cases h1:n<128
  · rw[if_pos h1]
    go_enter Tryz.func141,Tryz.ntmps141
    go_wp2
    go_ret
    exact⟨rfl,rfl⟩
  · rw[if_neg h1]
    go_enter Tryz.func141,Tryz.ntmps141
    go_wp2
    go_ret
    exact⟨rfl,rfl⟩
end Go.Proofs.YtconbejjagcnkaaGreatDoor.tlvd
namespace Go.Proofs.YtconbejjagcnkaaGreatDoor.tlvd
open Go.RowKit Go.Proofs.YtconbejjagcnkaaGreatDoor.tlvc

theorem Tryz.info5:(Tryz.prog.info? 5).map (fun i=>(i.zero,i.size,i.bytes))=some (some (.int .u8 0),1,1):=by kernel_rfl

/-- The bytes of a length. -/
def hdr (n:Int):List Int:=if n<128 then [n] else if n≤255 then [129,n] else [130,n/ 256,n%256]

def LenPost (base:Nat)(k:Nat)(xs:List Value)(n:Int)(w:World)(e:Ending)(w':World):Prop:=
  ∃v',e=.returned v'∧w'.ownsRow base 5 1 v' (k+ (hdr n).length) (xs++vals (hdr n))∧Below base w w'

theorem bys_new {w:World}{xs:List Int}{c:Array Value}{e:TypeId}{fr:Nat × Nat}{b m:Nat}(hc:c=(vals xs).toArray)(hf:Fit xs)(hm:m=xs.length)(hb:b=w.heap.size):Bys (w.alloc (.cells c e fr)) (some ⟨b,0,none⟩) m xs:=by
  subst hc hm hb
  refine⟨rfl,hf,fun _=>⟨_,_,rfl,by simp,fun j hj=>?_⟩⟩
  rw[Nat.zero_add,World.cell?_alloc_mark]
  simp[vals,List.getD_eq_getElem?_getD,List.getElem?_eq_getElem hj]

theorem lenPost_mk {base k:Nat}{xs:List Value}{n:Int}{w w0 w':World}{v v':Value}{ys:List Int}{m:Nat}(hy:hdr n=ys)(hm:m=ys.length)(hv:w0.ownsRow base 5 1 v k xs)(h:w'.ownsRow base 5 1 v' (k+m) (xs++vals ys))
    (hg:w0.grownBy w' v.ownBlock) (hb:Below base w w0) (hs:base≤w0.heap.size):LenPost base k xs n w (.returned v') w':=by
  subst hy hm
  exact⟨v',rfl,h,hb.grown hg hs fun j hj=>(hv.lt j hj).1⟩

set_option maxHeartbeats 400000 in
theorem appendLength_1 (base:Nat)(v:Value)(k:Nat)(xs:List Value)(n:Int)(w:World)(hown:w.ownsRow base 5 1 v k xs)(hk:k≤140737488355320)(h0:0≤n)(hn:n<128)(hbase:base≤w.heap.size):
    Calls Tryz.prog 117 #[v,.int .i64 n] w (LenPost base k xs n w):=by
  obtain⟨i0,hi,hz0,hz1,hz2⟩:=info_parts Tryz.info5
  have hw:widthN n=1:=by simp[widthN,hn]
  have HY:Hid (hdr n=[n]):=by show hdr n=[n];simp[hdr,hn]
  have hf:Fit [n]:=by intro x hx;simp at hx;omega
  go_enter Tryz.func117,Tryz.ntmps117
  go_wp2_with (first | (go_at_call 116;refine(width_any _ _).mono ?_;rintro e w' ⟨rfl,rfl⟩;rw[hw]) | (at_builtin;refine wpl_app rfl (.tmp 9) (.tmp 12) 28 rfl base 5 i0 (.int .u8 0) Tryz.underlying28 hi hz0 hz1 hz2 rfl v k xs rfl (hown.alloc _) _ 1 1 [n] rfl (bys_new rfl hf rfl (by simp)) (by omega) (by simp;omega) ?_))
  intro v' w1 ho hg
  go_wp2
  go_ret
  exact lenPost_mk HY.out rfl (hown.alloc _) ho hg ((Below.refl _ _).alloc hbase _) (by simp;omega)

set_option maxHeartbeats 400000 in
theorem appendLength_2 (base:Nat)(v:Value)(k:Nat)(xs:List Value)(n:Int)(w:World)(hown:w.ownsRow base 5 1 v k xs)(hk:k≤140737488355320)(h0:128≤n)(hn:n≤255)(hbase:base≤w.heap.size):
    Calls Tryz.prog 117 #[v,.int .i64 n] w (LenPost base k xs n w):=by
  obtain⟨i0,hi,hz0,hz1,hz2⟩:=info_parts Tryz.info5
  have hw:widthN n=2:=by simp[widthN,hn];omega
  have HY:Hid (hdr n=[129,n]):=by show hdr n=[129,n];simp[hdr,hn];omega
  have hf:Fit [129,n]:=by intro x hx;simp at hx;omega
  go_enter Tryz.func117,Tryz.ntmps117
  go_wp2_with (first | (go_at_call 116;refine(width_any _ _).mono ?_;rintro e w' ⟨rfl,rfl⟩;rw[hw]) | (at_builtin;refine wpl_app rfl (.tmp 16) (.tmp 19) 28 rfl base 5 i0 (.int .u8 0) Tryz.underlying28 hi hz0 hz1 hz2 rfl v k xs rfl (hown.alloc _) _ 2 2 [129,n] rfl (bys_new rfl hf rfl (by simp)) (by omega) (by simp;omega) ?_))
  intro v' w1 ho hg
  go_wp2
  go_ret
  exact lenPost_mk HY.out rfl (hown.alloc _) ho hg ((Below.refl _ _).alloc hbase _) (by simp;omega)

set_option maxHeartbeats 400000 in
theorem appendLength_3 (base:Nat)(v:Value)(k:Nat)(xs:List Value)(n:Int)(w:World)(hown:w.ownsRow base 5 1 v k xs)(hk:k≤140737488355320)(h0:255<n)(hn:n≤65535)(hbase:base≤w.heap.size):
    Calls Tryz.prog 117 #[v,.int .i64 n] w (LenPost base k xs n w):=by
  obtain⟨i0,hi,hz0,hz1,hz2⟩:=info_parts Tryz.info5
  have hw:widthN n=3:=by simp[widthN];omega
  have HY:Hid (hdr n=[130,n/ 256,n%256]):=by show hdr n=[130,n/ 256,n%256];unfold hdr;rw[if_neg (by omega),if_neg (by omega)]
  have hf:Fit [130,n/ 256,n%256]:=by intro x hx;simp at hx;omega
  go_enter Tryz.func117,Tryz.ntmps117
  go_wp2_with (first | (go_at_call 116;refine(width_any _ _).mono ?_;rintro e w' ⟨rfl,rfl⟩;rw[hw]) | (at_builtin;refine wpl_app rfl (.tmp 21) (.tmp 27) 28 rfl base 5 i0 (.int .u8 0) Tryz.underlying28 hi hz0 hz1 hz2 rfl v k xs rfl (hown.alloc _) _ 3 3 [130,n/ 256,n%256] rfl (bys_new rfl hf rfl (by simp)) (by omega) (by simp;omega) ?_))
  intro v' w1 ho hg
  go_wp2
  go_ret
  exact lenPost_mk HY.out rfl (hown.alloc _) ho hg ((Below.refl _ _).alloc hbase _) (by simp;omega)
end Go.Proofs.YtconbejjagcnkaaGreatDoor.tlvd
namespace Go.Proofs.YtconbejjagcnkaaGreatDoor.tlvd
open Go.RowKit Go.Proofs.YtconbejjagcnkaaGreatDoor.tlvc

theorem appendLength_any (base:Nat)(v:Value)(k:Nat)(xs:List Value)(n:Int)(w:World)(hown:w.ownsRow base 5 1 v k xs)(hk:k≤140737488355320)(h0:0≤n)(hn:n≤65535)(hbase:base≤w.heap.size):
    Calls Tryz.prog 117 #[v,.int .i64 n] w (LenPost base k xs n w):=by
  by_cases h1:n<128
  · exact appendLength_1 base v k xs n w hown hk h0 h1 hbase
  · by_cases h2:n≤255
    · exact appendLength_2 base v k xs n w hown hk (by omega) h2 hbase
    · exact appendLength_3 base v k xs n w hown hk (by omega) hn hbase

theorem hdr_length (n:Int):(hdr n).length=if n<128 then 1 else if n≤255 then 2 else 3:=by
  unfold hdr
  split
  · rfl
  · split<;>rfl
theorem hdr_fit (n:Int)(h0:0≤n)(hn:n≤65535):Fit (hdr n):=by
  intro x hx
  unfold hdr at hx
  split at hx
  · simp at hx;omega
  · split at hx<;>simp at hx<;>omega

/-- The bytes of a value. -/
def putBytes (t:Int)(xs:List Int):List Int:=[t]++hdr xs.length++xs

/-- What a call leaves that has made the bytes ys and hands them back beside OK. -/
def PutPost (w:World)(ys:List Int)(e:Ending)(w':World):Prop:=
  ∃g cap,e=.returned (.tuple #[.slice (some ⟨g,0,none⟩) ys.length cap,.int .i64 0])∧w'.ownsRow w.heap.size 5 1 (.slice (some ⟨g,0,none⟩) ys.length cap) ys.length (vals ys)∧Bys w' (some ⟨g,0,none⟩) ys.length ys∧Below w.heap.size w w'

theorem own_form {w:World}{base:Nat}{e:TypeId}{v:Value}{n:Nat}{xs:List Value}(h:w.ownsRow base e 1 v n xs)(hn:0<n): ∃g cap,v=.slice (some ⟨g,0,none⟩) n cap:=by
  rcases h.2 with ⟨_,h0⟩ | ⟨g,cap,cur,hv,_⟩
  · omega
  · exact⟨g,cap,hv⟩

theorem putPost_mk {w w1 w':World}{v v':Value}{k n:Nat}{xs:List Value}{ys:List Int}(hn:n=ys.length)(hpos:0<n)(hx:xs=vals ys)(hf:Fit ys){xs':List Value}(hv:w1.ownsRow w.heap.size 5 1 v k xs')(h:w'.ownsRow w.heap.size 5 1 v' n xs)
    (hg:w1.grownBy w' v.ownBlock) (hb:Below w.heap.size w w1):PutPost w ys (.returned (.tuple #[v',.int .i64 0])) w':=by
  subst hn hx
  obtain⟨g,cap,rfl⟩:=own_form h hpos
  exact⟨g,cap,rfl,h,Bys.own h hf,hb.grown hg hb.size fun j hj=>(hv.lt j hj).1⟩

def PutStop (w:World)(n:Int)(a':Act)(w':World):Prop:=w=w'∧a'.defers=[]∧a'.tmps.size=34∧a'.tmps.getD 7 undef=.int .i64 n

theorem put_tag (t:Int)(A:Option Addr)(n c:Nat)(w:World)(ht:endlessB t=true):
    Calls Tryz.prog 80 #[.int .u8 t,.slice A n c] w fun e w'=>e=.returned (.tuple #[.slice none 0 0,.int .i64 11])∧w=w':=by
  go_enter Tryz.func80,Tryz.ntmps80
  go_wp2
  refine wp_scope_jumps 0 (PutStop w 11) (fun _ _=>0) rfl ?_ ?_
  · go_wp2_with (first | (go_at_call 115;refine(endless_any _ _).mono ?_;rintro e w' ⟨rfl,rfl⟩;rw[ht]))
    go_step3
    exact⟨rfl,rfl,rfl,rfl,rfl⟩
  · rintro⟨tmps,defers⟩ w' ⟨rfl,rfl,hs,h7⟩
    go_wp2
    simp only[Exit.jump]
    go_ret2
    simp[hs]

theorem put_many (t:Int)(A:Option Addr)(n c:Nat)(w:World)(ht:endlessB t=false)(hn:65535<n):
    Calls Tryz.prog 80 #[.int .u8 t,.slice A n c] w fun e w'=>e=.returned (.tuple #[.slice none 0 0,.int .i64 2])∧w=w':=by
  go_enter Tryz.func80,Tryz.ntmps80
  go_wp2
  refine wp_scope_jumps 0 (PutStop w 2) (fun _ _=>0) rfl ?_ ?_
  · go_wp2_with (first | (go_at_call 115;refine(endless_any _ _).mono ?_;rintro e w' ⟨rfl,rfl⟩;rw[ht]))
    go_step3
    exact⟨rfl,rfl,rfl,rfl,rfl⟩
  · rintro⟨tmps,defers⟩ w' ⟨rfl,rfl,hs,h7⟩
    go_wp2
    simp only[Exit.jump]
    go_ret2
    simp[hs]

theorem put_len (t:Int)(xs:List Int):(putBytes t xs).length=1+ (hdr xs.length).length+xs.length:=by simp[putBytes];omega
theorem width_hdr (n:Int):widthN n=(hdr n).length:=by
  unfold widthN hdr
  split
  · rfl
  · split<;>rfl

theorem put_b2 {w w1 w2:World}{o:Obj}{v:Value}(h1:w1.ownsRow w.heap.size 5 1 v 0 [])(hg1:w.grownBy w1 none)(hg2:(w1.alloc o).grownBy w2 v.ownBlock):Below w.heap.size w w2:=
  (((Below.refl _ _).grown hg1 (Nat.le_refl _) (fun _ h=>by cases h)).alloc hg1.size o).grown hg2 (by have:=hg1.size;simp;omega) fun j hj=>(h1.lt j hj).1

set_option maxRecDepth 100000 in
set_option maxHeartbeats 400000 in
theorem put_ok (t:Int)(A:Option Addr)(n c:Nat)(xs:List Int)(w:World)(ht:endlessB t=false)(h0:0≤t)(h255:t≤255)(hn:n≤65535)(hb:Bys w A n xs):
    Calls Tryz.prog 80 #[.int .u8 t,.slice A n c] w (PutPost w (putBytes t xs)):=by
  obtain⟨i0,hi,hz0,hz1,hz2⟩:=info_parts Tryz.info5
  obtain⟨k,hk,hk3⟩: ∃k:Nat,widthN n=k∧k≤3:=⟨(hdr n).length,width_hdr n,by rw[hdr_length];split;omega;split<;>omega⟩
  have hft:Fit [t]:=by intro x hx;simp at hx;omega
  have HK:Hid (k=(hdr n).length):=by have:=width_hdr n;show k=_;omega
  go_enter Tryz.func80,Tryz.ntmps80
  go_wp2
  go_step3
  go_wp2_with (first | (go_at_call 115;refine(endless_any _ _).mono ?_;rintro e w' ⟨rfl,rfl⟩;rw[ht]) | (go_at_call 116;refine(width_any _ _).mono ?_;rintro e w' ⟨rfl,rfl⟩;rw[hk]) | (at_make;refine wpList_make_own _ rfl _ _ 28 rfl w.heap.size 5 i0 (.int .u8 0) 1 Tryz.underlying28 hi hz0 hz1 _ _ _ (1+k+n) rfl rfl (by omega) (by rw[hz2];omega) (by unfold maxLen;omega) (by simp) ?_;intro w1 hown1 hg1) | (at_builtin;refine wpl_app rfl (.tmp 21) (.tmp 23) 28 rfl w.heap.size 5 i0 (.int .u8 0) Tryz.underlying28 hi hz0 hz1 hz2 rfl _ 0 [] rfl (hown1.alloc _) _ 1 1 [t] rfl (bys_new rfl hft rfl (by simp)) (by omega) (by have:=hg1.size;simp;omega) ?_;intro v2 w2 hown2 hg2;have hb2:Below w.heap.size w w2:=put_b2 hown1 hg1 hg2;clear hg1 hg2 hown1;simp only[List.nil_append,Nat.zero_add] at hown2) | (go_at_call 117;refine(appendLength_any w.heap.size v2 1 (vals [t]) n w2 hown2 (by omega) (by omega) (by omega) hb2.size).mono ?_;rintro e w3 ⟨v3,rfl,hown3,hb3⟩;have hb3':Below w.heap.size w w3:=hb2.trans hb3;clear hb3 hb2 hown2) | (at_builtin;refine wpl_app rfl (.tmp 29) (.tmp 30) 28 rfl w.heap.size 5 i0 (.int .u8 0) Tryz.underlying28 hi hz0 hz1 hz2 rfl v3 _ _ rfl hown3 A n c xs rfl (hb.below hb3') (by rw[hdr_length];split;omega;split<;>omega) hb3'.size ?_;intro v4 w4 hown4 hg4))
  rw[Exit.noGoto_ret]
  go_ret2
  have hl:=hb.len
  refine putPost_mk ?_ (by omega) ?_ ((hft.app (hdr_fit _ (by omega) (by omega))).app hb.fit) hown3 hown4 hg4 hb3'
  · rw[put_len,hl]
  · unfold putBytes;rw[hl,vals_append,vals_append]
end Go.Proofs.YtconbejjagcnkaaGreatDoor.tlvd
namespace Go.Proofs.YtconbejjagcnkaaGreatDoor.tlvd
open Go.RowKit Go.Proofs.YtconbejjagcnkaaGreatDoor.tlvc

theorem refPut_tag (t:Int)(A:Option Addr)(n c:Nat)(w:World)(ht:endlessB t=true)(h0:0≤t)(h255:t≤255):
    Calls Tryz.prog 85 #[.int .u8 t,.slice A n c] w fun e w'=>e=.returned (.tuple #[.slice none 0 0,.int .i64 11])∧w=w':=by
  have hm:=endless_mod t h0 h255
  rw[ht] at hm
  replace hm:=hm.symm
  clear ht
  go_enter Tryz.func85,Tryz.ntmps85
  go_wp2
  go_ret2
  exact⟨rfl,rfl⟩

theorem refPut_many (t:Int)(A:Option Addr)(n c:Nat)(w:World)(ht:endlessB t=false)(h0:0≤t)(h255:t≤255)(hn:65535<n):
    Calls Tryz.prog 85 #[.int .u8 t,.slice A n c] w fun e w'=>e=.returned (.tuple #[.slice none 0 0,.int .i64 2])∧w=w':=by
  have hm:=endless_mod t h0 h255
  rw[ht] at hm
  replace hm:=hm.symm
  clear ht
  go_enter Tryz.func85,Tryz.ntmps85
  go_wp2
  go_ret2
  exact⟨rfl,rfl⟩

theorem ref_b2 {w w2:World}{c:Array Value}{e:TypeId}{o:Obj}{v:Value}{k:Nat}{xs:List Value}(h1:(w.alloc (.cells c e)).ownsRow w.heap.size 5 1 v k xs)(hg2:((w.alloc (.cells c e)).alloc o).grownBy w2 v.ownBlock):Below w.heap.size w w2:=
  (((Below.refl _ _).alloc (Nat.le_refl _) _).alloc (by simp) o).grown hg2 (by simp;omega) fun j hj=>(h1.lt j hj).1

theorem ref_own1 (w:World)(t:Int):(w.alloc (.cells #[.int .u8 t] 5)).ownsRow w.heap.size 5 1 (.slice (some ⟨w.heap.size,0,none⟩) 1 1) 1 (vals [t]):=
  World.ownsRow_lit w #[.int .u8 t] 1 (Nat.le_refl _) (by decide) rfl

set_option maxRecDepth 100000 in
set_option maxHeartbeats 400000 in
theorem refPut_1 (t:Int)(A:Option Addr)(n c:Nat)(xs:List Int)(w:World)(ht:endlessB t=false)(h0:0≤t)(h255:t≤255)(hn:n<128)(hb:Bys w A n xs):
    Calls Tryz.prog 85 #[.int .u8 t,.slice A n c] w (PutPost w (putBytes t xs)):=by
  obtain⟨i0,hi,hz0,hz1,hz2⟩:=info_parts Tryz.info5
  have hft:Fit [t]:=by intro x hx;simp at hx;omega
  have hfy:Fit [(n:Int)]:=by intro x hx;simp at hx;omega
  have HY:Hid (hdr n=[(n:Int)]):=by show hdr n=[(n:Int)];unfold hdr;rw[if_pos (by omega)]
  have hown1:=ref_own1 w t
  have hm:(t%32==31)=false:=by rw[←endless_mod t h0 h255];exact ht
  clear ht
  go_enter Tryz.func85,Tryz.ntmps85
  go_wp2_with (first | (at_builtin;refine wpl_app rfl (.tmp 28) (.tmp 31) 28 rfl w.heap.size 5 i0 (.int .u8 0) Tryz.underlying28 hi hz0 hz1 hz2 rfl _ 1 (vals [t]) rfl (hown1.alloc _) _ 1 1 [(n:Int)] rfl (bys_new rfl hfy rfl (by simp)) (by omega) (by simp;omega) ?_;intro v2 w2 hown2 hg2;have hb2:Below w.heap.size w w2:=ref_b2 hown1 hg2;clear hg2) | (at_builtin;refine wpl_app rfl (.tmp 41) (.tmp 42) 28 rfl w.heap.size 5 i0 (.int .u8 0) Tryz.underlying28 hi hz0 hz1 hz2 rfl v2 _ _ rfl hown2 A n c xs rfl (hb.below hb2) (by omega) hb2.size ?_;intro v4 w4 hown4 hg4))
  go_ret2
  have hl:=hb.len
  refine putPost_mk ?_ (by omega) ?_ ((hft.app (hdr_fit _ (by omega) (by omega))).app hb.fit) hown2 hown4 hg4 hb2
  · rw[put_len,hl,HY.out];simp
  · unfold putBytes;rw[hl,vals_append,vals_append,HY.out]

set_option maxRecDepth 100000 in
set_option maxHeartbeats 400000 in
theorem refPut_2 (t:Int)(A:Option Addr)(n c:Nat)(xs:List Int)(w:World)(ht:endlessB t=false)(h0:0≤t)(h255:t≤255)(hn1:128≤n)(hn:n≤255)(hb:Bys w A n xs):
    Calls Tryz.prog 85 #[.int .u8 t,.slice A n c] w (PutPost w (putBytes t xs)):=by
  obtain⟨i0,hi,hz0,hz1,hz2⟩:=info_parts Tryz.info5
  have hft:Fit [t]:=by intro x hx;simp at hx;omega
  have hfy:Fit [129,(n:Int)]:=by intro x hx;simp at hx;omega
  have HY:Hid (hdr n=[129,(n:Int)]):=by show hdr n=[129,(n:Int)];unfold hdr;rw[if_neg (by omega),if_pos (by omega)]
  have hown1:=ref_own1 w t
  have hm:(t%32==31)=false:=by rw[←endless_mod t h0 h255];exact ht
  clear ht
  go_enter Tryz.func85,Tryz.ntmps85
  go_wp2_with (first | (at_builtin;refine wpl_app rfl (.tmp 36) (.tmp 39) 28 rfl w.heap.size 5 i0 (.int .u8 0) Tryz.underlying28 hi hz0 hz1 hz2 rfl _ 1 (vals [t]) rfl (hown1.alloc _) _ 2 2 [129,(n:Int)] rfl (bys_new rfl hfy rfl (by simp)) (by omega) (by simp;omega) ?_;intro v2 w2 hown2 hg2;have hb2:Below w.heap.size w w2:=ref_b2 hown1 hg2;clear hg2) | (at_builtin;refine wpl_app rfl (.tmp 41) (.tmp 42) 28 rfl w.heap.size 5 i0 (.int .u8 0) Tryz.underlying28 hi hz0 hz1 hz2 rfl v2 _ _ rfl hown2 A n c xs rfl (hb.below hb2) (by omega) hb2.size ?_;intro v4 w4 hown4 hg4))
  go_ret2
  have hl:=hb.len
  refine putPost_mk ?_ (by omega) ?_ ((hft.app (hdr_fit _ (by omega) (by omega))).app hb.fit) hown2 hown4 hg4 hb2
  · rw[put_len,hl,HY.out];simp
  · unfold putBytes;rw[hl,vals_append,vals_append,HY.out]

set_option maxRecDepth 100000 in
set_option maxHeartbeats 400000 in
theorem refPut_3 (t:Int)(A:Option Addr)(n c:Nat)(xs:List Int)(w:World)(ht:endlessB t=false)(h0:0≤t)(h255:t≤255)(hn1:255<n)(hn:n≤65535)(hb:Bys w A n xs):
    Calls Tryz.prog 85 #[.int .u8 t,.slice A n c] w (PutPost w (putBytes t xs)):=by
  obtain⟨i0,hi,hz0,hz1,hz2⟩:=info_parts Tryz.info5
  have hft:Fit [t]:=by intro x hx;simp at hx;omega
  have hfy:Fit [130,(n:Int) / 256,(n:Int)%256]:=by intro x hx;simp at hx;omega
  have HY:Hid (hdr n=[130,(n:Int) / 256,(n:Int)%256]):=by show hdr n=[130,(n:Int) / 256,(n:Int)%256];unfold hdr;rw[if_neg (by omega),if_neg (by omega)]
  have hown1:=ref_own1 w t
  have hm:(t%32==31)=false:=by rw[←endless_mod t h0 h255];exact ht
  clear ht
  go_enter Tryz.func85,Tryz.ntmps85
  go_wp2_with (first | (at_builtin;refine wpl_app rfl (.tmp 17) (.tmp 23) 28 rfl w.heap.size 5 i0 (.int .u8 0) Tryz.underlying28 hi hz0 hz1 hz2 rfl _ 1 (vals [t]) rfl (hown1.alloc _) _ 3 3 [130,(n:Int) / 256,(n:Int)%256] rfl (bys_new rfl hfy rfl (by simp)) (by omega) (by simp;omega) ?_;intro v2 w2 hown2 hg2;have hb2:Below w.heap.size w w2:=ref_b2 hown1 hg2;clear hg2) | (at_builtin;refine wpl_app rfl (.tmp 41) (.tmp 42) 28 rfl w.heap.size 5 i0 (.int .u8 0) Tryz.underlying28 hi hz0 hz1 hz2 rfl v2 _ _ rfl hown2 A n c xs rfl (hb.below hb2) (by omega) hb2.size ?_;intro v4 w4 hown4 hg4))
  go_ret2
  have hl:=hb.len
  refine putPost_mk ?_ (by omega) ?_ ((hft.app (hdr_fit _ (by omega) (by omega))).app hb.fit) hown2 hown4 hg4 hb2
  · rw[put_len,hl,HY.out];simp
  · unfold putBytes;rw[hl,vals_append,vals_append,HY.out]

theorem refPut_ok (t:Int)(A:Option Addr)(n c:Nat)(xs:List Int)(w:World)(ht:endlessB t=false)(h0:0≤t)(h255:t≤255)(hn:n≤65535)(hb:Bys w A n xs):
    Calls Tryz.prog 85 #[.int .u8 t,.slice A n c] w (PutPost w (putBytes t xs)):=by
  by_cases h1:n<128
  · exact refPut_1 t A n c xs w ht h0 h255 h1 hb
  · by_cases h2:n≤255
    · exact refPut_2 t A n c xs w ht h0 h255 (by omega) h2 hb
    · exact refPut_3 t A n c xs w ht h0 h255 (by omega) hn hb
end Go.Proofs.YtconbejjagcnkaaGreatDoor.tlvd
