/- What a body tells is checked by writing it again: the progra -/
import Derived.Test.YtconbejjagcnkaaDoorIa
set_option maxHeartbeats 1000000
set_option linter.unusedVariables false
set_option linter.unusedSimpArgs false
namespace Go.Proofs.YtconbejjagcnkaaDoor.intc
open Go.RowKit tlvc intm
theorem sureInt_any (w:World):
 Calls Tryd.prog 59 #[.func (.func 23) #[] #[]] w fun e w'=>e=.returned (.func (.func 77) #[] #[.pointer (some ⟨w.heap.size,0,none⟩)])∧w'=w.alloc (.cells #[.func (.func 23) #[] #[]] 57):=by
 have hmf: ∀(fn:Fn) (first cap:Array Value) (w:World),(Instr.makeFunc fn first cap).run Tryd.prog w=.ok (.func fn first cap) w:=fun _ _ _ _=>rfl
 go_enter Tryd.func59,Tryd.ntmps59
 go_wp2
 go_ret
 exact⟨rfl,rfl⟩
theorem surelyInt_any (t:Int)(ht:I64 t)(p:Nat)(w:World)(hp:w.cell? ⟨p,0,none⟩=some (.func (.func 23) #[] #[])):
 Calls Tryd.prog 77 #[(.int .i64 t),.pointer (some ⟨p,0,none⟩)] w (Made2 w (putI t)):=by
 go_enter Tryd.func77,Tryd.ntmps77
 go_wp2_with fail
 refine(putInt_any _ _ ht).mono ?_
 rintro e w1 ⟨A,c,rfl,hh,hb⟩
 go_wp2_with fail
 go_ret2
 exact⟨A,c,rfl,hh,hb⟩
theorem asInt_yes (A:Option Addr)(n c:Nat)(xs:List Int)(t:Int)(ht:I64 t)(p:Nat)(q:Int)(w:World)(hb:Bys w A n xs)(hp:w.cell? ⟨p,0,none⟩=some (.func (.func 23) #[] #[]))(h:putI t=xs):
 Calls Tryd.prog 57 #[.slice A n c,(.int .i64 t),.int .i64 q,.func (.func 77) #[] #[.pointer (some ⟨p,0,none⟩)]] w fun e w'=>e=.returned (.tuple #[(.int .i64 t),.int .i64 0])∧Below w.heap.size w w':=by
 have hs:sameB (putI t) xs=true:=(sameB_iff (putI_bytes t) hb.fit).2 h
 have H:=hd_ h
 clear h
 go_enter Tryd.func57,Tryd.ntmps57
 go_wp2_with fail
 refine(surelyInt_any t ht p _ hp).mono ?_
 rintro e w1 ⟨A1,c1,rfl,hh,hbel⟩
 go_wp2_with fail
 refine(equal_any _ _ _ _ _ _ _ _ _ hh.1 (hb.below hbel)).mono ?_
 rw[hs]
 rintro e w2 ⟨rfl,rfl⟩
 go_wp2_with fail
 go_ret2
 exact⟨rfl,hbel⟩
theorem asInt_no (A:Option Addr)(n c:Nat)(xs:List Int)(t:Int)(ht:I64 t)(p:Nat)(q:Int)(w:World)(hb:Bys w A n xs)(hp:w.cell? ⟨p,0,none⟩=some (.func (.func 23) #[] #[]))(h: ¬putI t=xs):
 Calls Tryd.prog 57 #[.slice A n c,(.int .i64 t),.int .i64 q,.func (.func 77) #[] #[.pointer (some ⟨p,0,none⟩)]] w fun e w'=>e=.returned (.tuple #[(.int .i64 0),.int .i64 q])∧Below w.heap.size w w':=by
 have hs:sameB (putI t) xs=false:=sameB_no (putI_bytes t) hb.fit h
 clear h
 go_enter Tryd.func57,Tryd.ntmps57
 go_wp2_with fail
 refine(surelyInt_any t ht p _ hp).mono ?_
 rintro e w1 ⟨A1,c1,rfl,hh,hbel⟩
 go_wp2_with fail
 refine(equal_any _ _ _ _ _ _ _ _ _ hh.1 (hb.below hbel)).mono ?_
 rw[hs]
 rintro e w2 ⟨rfl,rfl⟩
 go_wp2_with fail
 go_ret2
 exact⟨rfl,hbel⟩
theorem sureBool_any (w:World):
 Calls Tryd.prog 94 #[.func (.func 95) #[] #[]] w fun e w'=>e=.returned (.func (.func 98) #[] #[.pointer (some ⟨w.heap.size,0,none⟩)])∧w'=w.alloc (.cells #[.func (.func 95) #[] #[]] 142):=by
 have hmf: ∀(fn:Fn) (first cap:Array Value) (w:World),(Instr.makeFunc fn first cap).run Tryd.prog w=.ok (.func fn first cap) w:=fun _ _ _ _=>rfl
 go_enter Tryd.func94,Tryd.ntmps94
 go_wp2
 go_ret
 exact⟨rfl,rfl⟩
theorem surelyBool_any (t:Bool)(p:Nat)(w:World)(hp:w.cell? ⟨p,0,none⟩=some (.func (.func 95) #[] #[])):
 Calls Tryd.prog 98 #[(.bool t),.pointer (some ⟨p,0,none⟩)] w (Made2 w (boolB t)):=by
 go_enter Tryd.func98,Tryd.ntmps98
 go_wp2_with fail
 refine(putBool_any _ _).mono ?_
 rintro e w1 ⟨A,c,rfl,hh,hb⟩
 go_wp2_with fail
 go_ret2
 exact⟨A,c,rfl,hh,hb⟩
theorem asBool_yes (A:Option Addr)(n c:Nat)(xs:List Int)(t:Bool)(p:Nat)(q:Int)(w:World)(hb:Bys w A n xs)(hp:w.cell? ⟨p,0,none⟩=some (.func (.func 95) #[] #[]))(h:boolB t=xs):
 Calls Tryd.prog 93 #[.slice A n c,(.bool t),.int .i64 q,.func (.func 98) #[] #[.pointer (some ⟨p,0,none⟩)]] w fun e w'=>e=.returned (.tuple #[(.bool t),.int .i64 0])∧Below w.heap.size w w':=by
 have hs:sameB (boolB t) xs=true:=(sameB_iff (boolB_fit t) hb.fit).2 h
 have H:=hd_ h
 clear h
 go_enter Tryd.func93,Tryd.ntmps93
 go_wp2_with fail
 refine(surelyBool_any t  p _ hp).mono ?_
 rintro e w1 ⟨A1,c1,rfl,hh,hbel⟩
 go_wp2_with fail
 refine(equal_any _ _ _ _ _ _ _ _ _ hh.1 (hb.below hbel)).mono ?_
 rw[hs]
 rintro e w2 ⟨rfl,rfl⟩
 go_wp2_with fail
 go_ret2
 exact⟨rfl,hbel⟩
theorem asBool_no (A:Option Addr)(n c:Nat)(xs:List Int)(t:Bool)(p:Nat)(q:Int)(w:World)(hb:Bys w A n xs)(hp:w.cell? ⟨p,0,none⟩=some (.func (.func 95) #[] #[]))(h: ¬boolB t=xs):
 Calls Tryd.prog 93 #[.slice A n c,(.bool t),.int .i64 q,.func (.func 98) #[] #[.pointer (some ⟨p,0,none⟩)]] w fun e w'=>e=.returned (.tuple #[(.bool false),.int .i64 q])∧Below w.heap.size w w':=by
 have hs:sameB (boolB t) xs=false:=sameB_no (boolB_fit t) hb.fit h
 clear h
 go_enter Tryd.func93,Tryd.ntmps93
 go_wp2_with fail
 refine(surelyBool_any t  p _ hp).mono ?_
 rintro e w1 ⟨A1,c1,rfl,hh,hbel⟩
 go_wp2_with fail
 refine(equal_any _ _ _ _ _ _ _ _ _ hh.1 (hb.below hbel)).mono ?_
 rw[hs]
 rintro e w2 ⟨rfl,rfl⟩
 go_wp2_with fail
 go_ret2
 exact⟨rfl,hbel⟩
def intF (xs:List Int):Int × Int:=if putI (dec (xs.take 8))=xs then (dec (xs.take 8),0) else (0,21)
def Told (w:World)(v:Value)(q:Int)(e:Ending)(w':World):Prop:=e=.returned (.tuple #[v,.int .i64 q])∧Below w.heap.size w w'
theorem take_i64 {xs:List Int}(h:Fit xs):I64 (dec (xs.take 8)):=dec_i64 (by rw[List.length_take];omega) fun x hx=>h x (List.mem_of_mem_take hx)
theorem int_any (A:Option Addr)(n c:Nat)(xs:List Int)(w:World)(hb:Bys w A n xs)(hc:n≤c)(hm:c≤maxLen):
 Calls Tryd.prog 32 #[.slice A n c] w (Told w (.int .i64 (intF xs).1) (intF xs).2):=by
 have ht:=take_i64 hb.fit
 have hcell: ∀w:World,(w.alloc (.cells #[.func (.func 23) #[] #[]] 57)).cell? ⟨w.heap.size,0,none⟩=some (.func (.func 23) #[] #[]):=fun w=>by simp
 by_cases h:putI (dec (xs.take 8))=xs
 ·have e1:(intF xs).1=dec (xs.take 8):=by unfold intF;rw[if_pos h]
  have e2:(intF xs).2=0:=by unfold intF;rw[if_pos h]
  rw[e1,e2]
  have H:=hd_ h
  have HC:=hd_ hcell
  clear h e1 e2 hcell
  go_enter Tryd.func32,Tryd.ntmps32
  go_wp2_with fail
  refine(number_any _ _ _ _ _ hb hc hm).mono ?_
  rintro e w' ⟨rfl,rfl⟩
  go_wp2_with fail
  refine(sureInt_any _).mono ?_
  rintro e w' ⟨rfl,rfl⟩
  go_wp2_with fail
  refine(asInt_yes _ _ _ _ _ ht _ _ _ (hb.alloc _) (HC.out _) H.out).mono ?_
  rintro e w' ⟨rfl,hbel⟩
  go_wp2_with fail
  go_ret2
  exact⟨rfl,((br_ _ _).alloc (lr_ _) _).trans (hbel.mono (by simp))⟩
 ·have e1:(intF xs).1=0:=by unfold intF;rw[if_neg h]
  have e2:(intF xs).2=21:=by unfold intF;rw[if_neg h]
  rw[e1,e2]
  have H:=hd_ h
  have HC:=hd_ hcell
  clear h e1 e2 hcell
  go_enter Tryd.func32,Tryd.ntmps32
  go_wp2_with fail
  refine(number_any _ _ _ _ _ hb hc hm).mono ?_
  rintro e w' ⟨rfl,rfl⟩
  go_wp2_with fail
  refine(sureInt_any _).mono ?_
  rintro e w' ⟨rfl,rfl⟩
  go_wp2_with fail
  refine(asInt_no _ _ _ _ _ ht _ _ _ (hb.alloc _) (HC.out _) H.out).mono ?_
  rintro e w' ⟨rfl,hbel⟩
  go_wp2_with fail
  go_ret2
  exact⟨rfl,((br_ _ _).alloc (lr_ _) _).trans (hbel.mono (by simp))⟩
def toldB (xs:List Int):Bool:=decide (0<xs.length) && (xs.getD 0 0==255)
def boolF (xs:List Int):Bool × Int:=if boolB (toldB xs)=xs then (toldB xs,0) else (false,23)
end Go.Proofs.YtconbejjagcnkaaDoor.intc
namespace Go.Proofs.YtconbejjagcnkaaDoor.intc
open Go.RowKit tlvc intm
theorem intF_len {xs:List Int}(hf:Fit xs)(h:xs.length=0∨8<xs.length):intF xs=(0,21):=by
 unfold intF
 rw[if_neg]
 intro e
 have h1:=congrArg List.length e
 have h2:=width_bd (dec (xs.take 8))
 rw[putI_length] at h1
 omega
theorem intF_yes {xs:List Int}(hf:Fit xs)(h1:1≤xs.length)(h8:xs.length≤8)(h:Least xs):intF xs=(dec xs,0):=by
 unfold intF
 rw[List.take_of_length_le h8,if_pos (putI_dec h1 h8 hf h)]
theorem intF_no {xs:List Int}(hf:Fit xs)(h1:1≤xs.length)(h8:xs.length≤8)(h: ¬Least xs):intF xs=(0,21):=by
 unfold intF
 rw[List.take_of_length_le h8,if_neg]
 intro e
 have:=putI_least (dec_i64 h8 hf)
 rw[e] at this
 exact h this
def Same2 (w:World)(v:Value)(q:Int)(e:Ending)(w':World):Prop:=e=.returned (.tuple #[v,.int .i64 q])∧w=w'
theorem least_one {xs:List Int}(h:xs.length=1):Least xs:=by
 match xs,h with
 | [b],_=>trivial
theorem least_two {xs:List Int}(h:2≤xs.length):Least xs↔ ¬((xs.getD 0 0=0∧xs.getD 1 0<128)∨(xs.getD 0 0=255∧128≤xs.getD 1 0)):=by
 match xs,h with
 |b::c::r,_=>simp[Least]
end Go.Proofs.YtconbejjagcnkaaDoor.intc
namespace Go.Proofs.YtconbejjagcnkaaDoor.intc
open Go.RowKit tlvc intm
theorem toldB_len {xs:List Int}(h:xs.length=0):toldB xs=false:=by rw[List.eq_nil_of_length_eq_zero h];rfl
theorem toldB_yes {xs:List Int}(h:0<xs.length)(h0:xs.getD 0 0=255):toldB xs=true:=by unfold toldB;rw[h0];simp[h]
theorem toldB_no {xs:List Int}(h0:xs.getD 0 0≠255):toldB xs=false:=by unfold toldB;simp only[Bool.and_eq_false_iff,beq_eq_false_iff_ne,ne_eq];exact .inr h0
theorem bool_as (A:Option Addr)(n c:Nat)(xs:List Int)(w:World)(hb:Bys w A n xs)(p:Nat)(hp:w.cell? ⟨p,0,none⟩=some (.func (.func 95) #[] #[])):
 Calls Tryd.prog 93 #[.slice A n c,.bool (toldB xs),.int .i64 23,.func (.func 98) #[] #[.pointer (some ⟨p,0,none⟩)]] w (Told w (.bool (boolF xs).1) (boolF xs).2):=by
 by_cases h:boolB (toldB xs)=xs
 ·have e:boolF xs=(toldB xs,0):=by unfold boolF;rw[if_pos h]
  rw[e]
  exact asBool_yes _ _ _ _ _ _ _ _ hb hp h
 ·have e:boolF xs=(false,23):=by unfold boolF;rw[if_neg h]
  rw[e]
  exact asBool_no _ _ _ _ _ _ _ _ hb hp h
theorem bool_any (A:Option Addr)(n c:Nat)(xs:List Int)(w:World)(hb:Bys w A n xs):
 Calls Tryd.prog 82 #[.slice A n c] w (Told w (.bool (boolF xs).1) (boolF xs).2):=by
 have hlen:=hb.len
 have hcell: ∀w:World,(w.alloc (.cells #[.func (.func 95) #[] #[]] 142)).cell? ⟨w.heap.size,0,none⟩=some (.func (.func 95) #[] #[]):=fun w=>by simp
 by_cases h0:n<1
 ·obtain rfl:n=0:=by omega
  have ht:=hd_ (toldB_len hlen)
  have HC:=hd_ hcell
  clear hlen hcell
  go_enter Tryd.func82,Tryd.ntmps82
  go_wp2_with fail
  refine(sureBool_any _).mono ?_
  rintro e w' ⟨rfl,rfl⟩
  go_wp2_with fail
  have h:=bool_as _ _ c _ _ (hb.alloc (.cells #[.func (.func 95) #[] #[]] 142)) w.heap.size (HC.out _)
  rw[ht.out] at h
  refine h.mono ?_
  rintro e w' ⟨rfl,hbel⟩
  go_wp2_with fail
  go_ret2
  exact⟨rfl,((br_ _ _).alloc (lr_ _) _).trans (hbel.mono (by simp))⟩
 ·obtain⟨b,off,rfl,_,hcl⟩:=hb.2.2 (by omega)
  have hc0:w.cell? ⟨b,off,none⟩=some (.int .u8 (xs.getD 0 0)):=by simpa using hcl 0 (by omega)
  have hb0:=hb.fit.getD 0
  obtain⟨x0,hx0⟩:=nm_ (xs.getD 0 0)
  have HL:=hd_ hlen
  have HC:=hd_ hcell
  by_cases e5:x0=255
  ·have ht:=hd_ (toldB_yes (by omega) (hx0.trans e5))
   rw[hx0] at hc0 hb0
   subst e5
   clear hx0 hlen hcell hcl
   go_enter Tryd.func82,Tryd.ntmps82
   go_wp2_with fail
   refine(sureBool_any _).mono ?_
   rintro e w' ⟨rfl,rfl⟩
   go_wp2_with fail
   have h:=bool_as _ _ c _ _ (hb.alloc (.cells #[.func (.func 95) #[] #[]] 142)) w.heap.size (HC.out _)
   rw[ht.out] at h
   refine h.mono ?_
   rintro e w' ⟨rfl,hbel⟩
   go_wp2_with fail
   go_ret2
   exact⟨rfl,((br_ _ _).alloc (lr_ _) _).trans (hbel.mono (by simp))⟩
  ·have ht:=hd_ (toldB_no (fun h=>e5 (hx0.symm.trans h)))
   rw[hx0] at hc0 hb0
   have e5':(x0==255)=false:=by simpa using e5
   clear hx0 hlen hcell hcl e5
   go_enter Tryd.func82,Tryd.ntmps82
   go_wp2_with fail
   refine(sureBool_any _).mono ?_
   rintro e w' ⟨rfl,rfl⟩
   go_wp2_with fail
   have h:=bool_as _ _ c _ _ (hb.alloc (.cells #[.func (.func 95) #[] #[]] 142)) w.heap.size (HC.out _)
   rw[ht.out] at h
   refine h.mono ?_
   rintro e w' ⟨rfl,hbel⟩
   go_wp2_with fail
   go_ret2
   exact⟨rfl,((br_ _ _).alloc (lr_ _) _).trans (hbel.mono (by simp))⟩
end Go.Proofs.YtconbejjagcnkaaDoor.intc
