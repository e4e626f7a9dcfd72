/- Serials: whether a list has one, whether they rise; the program's Lists and serialsRight; a node's time. -/
import Derived.Test.YtconbejjagcnkaaGreatDoorWc
import Derived.Test.YtconbejjagcnkaaGreatDoorWd
set_option maxRecDepth 100000
set_option maxHeartbeats 1600000
set_option linter.unusedVariables false
set_option linter.unusedSimpArgs false
namespace Go.Proofs.YtconbejjagcnkaaGreatDoor.nmc
open Go.RowKit tlvc tlvd ndc txc txm intc intm vtc
def inL:List Int→Int→Bool
 | [],_=>false
 |y::l,x=>decide (x=y) || inL l x
theorem inL_hit {xs:List Int}{k:Nat}{x:Int}(hk:k<xs.length)(h:x=xs.getD k 0):inL (xs.drop k) x=true:=by
 rw[List.drop_eq_getElem_cons hk]
 unfold inL
 rw[List.getD_eq_getElem?_getD,List.getElem?_eq_getElem hk] at h
 rw[decide_eq_true (show x=xs[k] from h)]
 rfl
theorem inL_miss {xs:List Int}{k:Nat}{x:Int}(hk:k<xs.length)(h: ¬x=xs.getD k 0):inL (xs.drop k) x=inL (xs.drop (k+1)) x:=by
 rw[List.drop_eq_getElem_cons hk]
 conv=>lhs;unfold inL
 rw[List.getD_eq_getElem?_getD,List.getElem?_eq_getElem hk] at h
 rw[decide_eq_false (show¬x=xs[k] from h),Bool.false_or]
theorem index_any (A:Option Addr)(n c:Nat)(xs:List Int)(x:Int)(w:World)(hx:Ins w A n xs)(hc:n≤c)(hm:c≤maxLen):
 Calls Tryz.prog 66 #[.slice A n c,.int .i64 x] w fun e w'=>∃r:Int,e=.returned (.int .i64 r)∧Hid (decide (0≤r)=inL xs x∧w=w'):=by
 have h9:c≤9223372036854775807:=by unfold maxLen at hm;omega
 have hl:=hx.len
 obtain⟨R,hR⟩:=nm_ (inL xs x)
 rw[hR]
 have HR:=hd_ (show inL (xs.drop 0) x=R by rw[List.drop_zero];exact hR)
 have HX:=hd_ (ai_ hx hl)
 clear hx hl hR hm
 go_enter Tryz.func66,Tryz.ntmps66
 go_wp2_with fail
 go_loopg [8] (n+1) (fun gk s8 wx=>∃(k:Nat),s8=.int .i64 k∧k≤n∧n - k<gk∧wx=w∧Hid (inL (xs.drop k) x=R))
 case atStart=>exact⟨0,rfl,by omega,by omega,rfl,HR⟩
 case round=>
  obtain⟨k,rfl,hk,hgk,rfl,HI⟩:=hrel
  clear HR
  by_cases hlt:k<n
  ·have hltz:(k:Int)< (n:Int):=by omega
   obtain⟨gk',rfl⟩: ∃g',gk=g'+1:=⟨gk - 1,by omega⟩
   have HN:=hd_ (ai_ (show k+1≤n from hlt) (show n - (k+1)<gk' by omega))
   obtain⟨b,off,rfl,hb,hcell⟩:=HX.out.1.2.2 (by omega)
   have e0:=hcell k hlt
   have hkx:k<xs.length:=by rw[HX.out.2];exact hlt
   obtain⟨y,hy⟩:=nm_ (xs.getD k 0)
   rw[hy] at e0
   clear hcell hb
   by_cases hxy:x=y
   ·have HT:=hd_ (show true=R by rw[←HI.out,inL_hit hkx (by rw[hy];exact hxy)])
    subst hxy
    clear hy HI
    go_wp2
    go_ret
    exact⟨k,rfl,hd_ ⟨by rw[←HT.out];exact decide_eq_true (by omega),rfl⟩⟩
   ·have HT:=hd_ (show inL (xs.drop (k+1)) x=R by rw[←HI.out,inL_miss hkx (by rw[hy];exact hxy)])
    clear hy HI
    go_wp2
    go_roundg gk'
    case measure=>omega
    case rel=>exact⟨k+1,by go_num,HN.out.1,HN.out.2,rfl,HT⟩
  ·obtain rfl:n=k:=by omega
   have hltz: ¬(n:Int)< (n:Int):=by omega
   have HT:=hd_ (show false=R by rw[←HI.out,List.drop_eq_nil_of_le (by rw[HX.out.2];exact Nat.le_refl _)];rfl)
   clear HI
   go_wp2
   go_ret
   exact⟨-1,rfl,hd_ ⟨by rw[←HT.out];rfl,rfl⟩⟩
theorem contains_any (A:Option Addr)(n c:Nat)(xs:List Int)(x:Int)(w:World)(hx:Ins w A n xs)(hc:n≤c)(hm:c≤maxLen):
 Calls Tryz.prog 32 #[.slice A n c,.int .i64 x] w fun e w'=>e=.returned (.bool (inL xs x))∧w=w':=by
 have HI:=hd_ (index_any A n c xs x w hx hc hm)
 obtain⟨R,hR⟩:=nm_ (inL xs x)
 rw[hR] at HI⊢
 clear hx hR hm
 go_enter Tryz.func32,Tryz.ntmps32
 go_wp2_with fail
 refine HI.out.mono ?_
 rintro e w' ⟨r,rfl,HO⟩
 obtain rfl:=HO.out.2
 go_wp2
 go_ret
 exact⟨by rw[←HO.out.1];rfl,rfl⟩
def listsB (c:Cr)(s n:Int):Bool:=decide (c.ths≤n) && (decide (n≤c.nxt) && inL c.sers s)
theorem box5 {W:World}{g:Nat}{x0 x1 x2 x3 x4:Value}{T:TypeId}(h:W.heap[g]? =some (.cells #[x0,x1,x2,x3,x4] T)):W.cell? ⟨g,0,none⟩=some x0∧W.cell? ⟨g,1,none⟩=some x1∧W.cell? ⟨g,2,none⟩=some x2∧W.cell? ⟨g,3,none⟩=some x3∧W.cell? ⟨g,4,none⟩=some x4:=
 ⟨(ch_ h _).trans rfl,(ch_ h _).trans rfl,(ch_ h _).trans rfl,(ch_ h _).trans rfl,(ch_ h _).trans rfl⟩
theorem fz5 {W:World}{g:Nat}{x0 x1 x2 x3 x4:Value}{T:TypeId}(h:W.heap[g]? =some (.cells #[x0,x1,x2,x3,x4] T)):W.frozen? ⟨g,0,none⟩=false∧W.frozen? ⟨g,1,none⟩=false∧W.frozen? ⟨g,2,none⟩=false∧W.frozen? ⟨g,3,none⟩=false∧W.frozen? ⟨g,4,none⟩=false:=
 ⟨fh_ h _,fh_ h _,fh_ h _,fh_ h _,fh_ h _⟩
theorem inC_ins {S:Nat→Prop}{w:World}{xs:List Int}{A:Option Addr}{l k:Nat}(h:InC S w xs (.slice A l k)):l≤k∧k≤maxLen∧Ins w A l xs∧(0<l→∀g off sp,A=some ⟨g,off,sp⟩→S g):=by
 obtain⟨A',l',k',e,h1,h2,h3,h4⟩:=h
 simp only[Value.slice.injEq] at e
 obtain⟨rfl,rfl,rfl⟩:=e
 exact⟨h1,h2,h3,h4⟩
theorem lists_any (B:Nat→Prop)(c:Cr)(c0 c1 c2 c3 c4:Value)(s n:Int)(w:World)(hx:CrC B w c c0 c1 c2 c3 c4):
 Calls Tryz.prog 13 #[.agg #[c0,c1,c2,c3,c4],.int .i64 s,.int .i64 n] w fun e w'=>e=.returned (.bool (listsB c s n))∧Below w.heap.size w w':=by
 obtain⟨W0,hW0⟩:=nm_ (w.alloc (.cells #[c0,c1,c2,c3,c4] 26))
 have hb0:Below w.heap.size w W0:=by rw[←hW0];exact below_new _ _
 have p0:W0.heap[w.heap.size]? =some (.cells #[c0,c1,c2,c3,c4] 26):=by rw[←hW0];exact heap_new_ _ _
 obtain⟨A0,l0,k0,a1,a2,A3,l3,k3,a4,rfl,rfl,rfl,rfl,rfl⟩:=hx.shape
 obtain⟨e0,e1,e2,e3,e4⟩:=box5 p0
 have h1:a1=c.ths:=by have:=hx.ths.1;simpa using this
 have h2:a2=c.nxt:=by have:=hx.nxt.1;simpa using this
 obtain⟨i1,i2,i3,_⟩:=inC_ins (hx.below hb0).sers
 have HC:=hd_ (contains_any A3 l3 k3 c.sers s W0 i3 i1 i2)
 obtain⟨R,hR⟩:=nm_ (inL c.sers s)
 rw[hR] at HC
 have hl:listsB c s n=(decide (a1≤n) && (decide (n≤a2) && R)):=by unfold listsB;rw[hR,h1,h2]
 rw[hl]
 have HB:=hd_ hb0
 clear hb0 p0 hx i1 i2 i3 h1 h2 hR hl
 by_cases q1:a1≤n
 ·rw[decide_eq_true q1,Bool.true_and]
  by_cases q2:n≤a2
  ·rw[decide_eq_true q2,Bool.true_and]
   go_enter Tryz.func13,Tryz.ntmps13
   go_wp2_with fail
   refine HC.out.mono ?_
   rintro e w' ⟨rfl,rfl⟩
   go_wp2
   go_ret
   exact⟨rfl,HB.out⟩
  ·rw[decide_eq_false q2,Bool.false_and]
   go_enter Tryz.func13,Tryz.ntmps13
   go_wp2
   go_ret
   exact⟨rfl,HB.out⟩
 ·rw[decide_eq_false q1,Bool.false_and]
  go_enter Tryz.func13,Tryz.ntmps13
  go_wp2
  go_ret
  exact⟨rfl,HB.out⟩
def Bx (w:World)(b:Nat)(w':World):Prop:=Below b w w'∧(∀g,g≠b→w'.heap[g]? =w.heap[g]?)∧w'.heap.size=w.heap.size
theorem Bx.refl (w:World)(b:Nat):Bx w b w:=⟨Below.refl _ _,fun _ _=>rfl,rfl⟩
theorem Bx.set {w w':World}{b:Nat}(h:Bx w b w')(i:Nat)(v:Value):Bx w b (w'.setCell ⟨b,i,none⟩ v):=⟨h.1.setCell (p:=⟨b,i,none⟩) (lr_ _) v,fun g hg=>(set_heap_other _ _ _ _ _ hg).trans (h.2.1 g hg),(set_size _ _ _).trans h.2.2⟩
theorem serial_any (b:Nat)(x v:Int)(w:World)(hb:w.heap[b]? =some (.cells #[.int .i64 v] 2)):
 Calls Tryz.prog 74 #[.int .i64 x,.pointer (some ⟨b,0,none⟩)] w fun e w'=>e=.returned (.bool (decide (x≤v) || decide (4611686018427387904<x)))∧w'=w.setCell ⟨b,0,none⟩ (.int .i64 x):=by
 have e0:=(ch_ hb 0).trans rfl
 have f0:=fh_ hb 0
 clear hb
 by_cases q1:x≤v
 ·rw[decide_eq_true q1,Bool.true_or]
  go_enter Tryz.func74,Tryz.ntmps74
  go_wp2
  go_ret
  exact⟨rfl,rfl⟩
 ·rw[decide_eq_false q1,Bool.false_or]
  by_cases q2:4611686018427387904<x
  ·rw[decide_eq_true q2]
   go_enter Tryz.func74,Tryz.ntmps74
   go_wp2
   go_ret
   exact⟨rfl,rfl⟩
  ·rw[decide_eq_false q2]
   go_enter Tryz.func74,Tryz.ntmps74
   go_wp2
   go_ret
   exact⟨rfl,rfl⟩
theorem badS_drop {xs:List Int}{k:Nat}{v:Int}(hk:k<xs.length):badS (xs.drop k) v=((decide (xs.getD k 0≤v) || decide (4611686018427387904<xs.getD k 0)) || badS (xs.drop (k+1)) (xs.getD k 0)):=by
 rw[List.drop_eq_getElem_cons hk]
 rw[List.getD_eq_getElem?_getD,List.getElem?_eq_getElem hk]
 rfl
theorem indexF_any (A:Option Addr)(n c:Nat)(xs:List Int)(b:Nat)(v0:Int)(w:World)(hx:Ins w A n xs)(hc:n≤c)(hm:c≤maxLen)(hb:w.heap[b]? =some (.cells #[.int .i64 v0] 2))(hA:0<n→∀g off sp,A=some ⟨g,off,sp⟩→g≠b):
 Calls Tryz.prog 112 #[.slice A n c,.func (.func 74) #[] #[.pointer (some ⟨b,0,none⟩)]] w fun e w'=>∃r:Int,e=.returned (.int .i64 r)∧Hid (decide (0≤r)=badS xs v0∧Bx w b w'):=by
 have h9:c≤9223372036854775807:=by unfold maxLen at hm;omega
 have hl:=hx.len
 obtain⟨R,hR⟩:=nm_ (badS xs v0)
 rw[hR]
 have HR:=hd_ (show badS (xs.drop 0) v0=R by rw[List.drop_zero];exact hR)
 have HX:=hd_ (ai_ hx (ai_ hl hA))
 have HB:=hd_ hb
 clear hx hl hR hm hb hA
 go_enter Tryz.func112,Tryz.ntmps112
 go_wp2_with fail
 go_loopg [8] (n+1) (fun gk s8 wx=>∃(k:Nat) (v:Int),s8=.int .i64 k∧k≤n∧n - k<gk∧Hid (badS (xs.drop k) v=R∧Bx w b wx∧wx.heap[b]? =some (.cells #[.int .i64 v] 2)))
 case atStart=>exact⟨0,v0,rfl,by omega,by omega,hd_ ⟨HR.out,Bx.refl _ _,HB.out⟩⟩
 case round=>
  obtain⟨k,v,rfl,hk,hgk,HI⟩:=hrel
  clear HR
  by_cases hlt:k<n
  ·have hltz:(k:Int)< (n:Int):=by omega
   obtain⟨gk',rfl⟩: ∃g',gk=g'+1:=⟨gk - 1,by omega⟩
   have HN:=hd_ (ai_ (show k+1≤n from hlt) (show n - (k+1)<gk' by omega))
   obtain⟨g,off,rfl,hg,hcell⟩:=HX.out.1.2.2 (by omega)
   have hgb:=HX.out.2.2 (by omega) g off none rfl
   have e0:wr.cell? ⟨g,off+k,none⟩=some (.int .i64 (xs.getD k 0)):=(cell_same (p:=⟨g,off+k,none⟩) (HI.out.2.1.2.1 g hgb)).trans (hcell k hlt)
   have hkx:k<xs.length:=by rw[HX.out.2.1];exact hlt
   have hbd:=badS_drop (v:=v) hkx
   obtain⟨y,hy⟩:=nm_ (xs.getD k 0)
   rw[hy] at e0 hbd
   have HC:=hd_ (serial_any b y v wr HI.out.2.2)
   obtain⟨q,hq⟩:=nm_ (decide (y≤v) || decide (4611686018427387904<y))
   rw[hq] at HC hbd
   have HD:=hd_ (show(q || badS (xs.drop (k+1)) y)=R by rw[←hbd];exact HI.out.1)
   have HW:=hd_ (ai_ (HI.out.2.1.set 0 (.int .i64 y)) (set_heap _ _ 0 (.int .i64 y) _ _ _ HI.out.2.2))
   clear hcell hg hgb hy hbd hq HI
   go_wp2_with fail
   refine HC.out.mono ?_
   rintro e w' ⟨rfl,rfl⟩
   obtain⟨w',hw'⟩:=nm_ (wr.setCell ⟨b,0,none⟩ (.int .i64 y))
   rw[hw'] at HW⊢
   clear hw' e0 HC
   cases q with
   |true=>
    go_wp2
    go_ret
    exact⟨k,rfl,hd_ ⟨by rw[←HD.out,Bool.true_or];exact decide_eq_true (by omega),HW.out.1⟩⟩
   |false=>
    go_wp2
    go_roundg gk'
    case measure=>omega
    case rel=>exact⟨k+1,y,by go_num,HN.out.1,HN.out.2,hd_ ⟨by rw[←HD.out,Bool.false_or],HW.out.1,HW.out.2⟩⟩
  ·obtain rfl:n=k:=by omega
   have hltz: ¬(n:Int)< (n:Int):=by omega
   have HT:=hd_ (show false=R by rw[←HI.out.1,List.drop_eq_nil_of_le (by rw[HX.out.2.1];exact Nat.le_refl _)];rfl)
   go_wp2
   go_ret
   exact⟨-1,rfl,hd_ ⟨by rw[←HT.out];rfl,HI.out.2.1⟩⟩
theorem containsF_any (A:Option Addr)(n c:Nat)(xs:List Int)(b:Nat)(v0:Int)(w:World)(hx:Ins w A n xs)(hc:n≤c)(hm:c≤maxLen)(hb:w.heap[b]? =some (.cells #[.int .i64 v0] 2))(hA:0<n→∀g off sp,A=some ⟨g,off,sp⟩→g≠b):
 Calls Tryz.prog 73 #[.slice A n c,.func (.func 74) #[] #[.pointer (some ⟨b,0,none⟩)]] w fun e w'=>e=.returned (.bool (badS xs v0))∧Bx w b w':=by
 have HI:=hd_ (indexF_any A n c xs b v0 w hx hc hm hb hA)
 obtain⟨R,hR⟩:=nm_ (badS xs v0)
 rw[hR] at HI⊢
 clear hx hR hm hb hA
 go_enter Tryz.func73,Tryz.ntmps73
 go_wp2_with fail
 refine HI.out.mono ?_
 rintro e w' ⟨r,rfl,HO⟩
 go_wp2
 go_ret
 exact⟨by rw[←HO.out.1];rfl,HO.out.2⟩
theorem sersRight_any (A:Option Addr)(n c:Nat)(xs:List Int)(w:World)(hx:Ins w A n xs)(hc:n≤c)(hm:c≤maxLen):
 Calls Tryz.prog 36 #[.slice A n c] w fun e w'=>e=.returned (.bool (sersB xs))∧Below w.heap.size w w':=by
 have hl:=hx.len
 have hmf: ∀(fn:Fn) (first cap:Array Value) (w:World),(Instr.makeFunc fn first cap).run Tryz.prog w=.ok (.func fn first cap) w:=fun _ _ _ _=>rfl
 rw[badS_sers,hl]
 by_cases h256:n≤256
 ·have hz: ¬(256:Int)< (n:Int):=by omega
  rw[decide_eq_true h256,Bool.true_and]
  obtain⟨W0,hW0⟩:=nm_ (w.alloc (.cells #[.int .i64 (-1)] 2))
  have hb0:Below w.heap.size w W0:=by rw[←hW0];exact below_new _ _
  have p0:W0.heap[w.heap.size]? =some (.cells #[.int .i64 (-1)] 2):=by rw[←hW0];exact heap_new_ _ _
  have HC:=hd_ (containsF_any A n c xs w.heap.size (-1) W0 (hx.below hb0) hc hm p0 (fun hn g off sp e=>by
   obtain⟨b,off',e',hb,_⟩:=hx.2.2 hn
   rw[e] at e'
   simp only[Option.some.injEq,Addr.mk.injEq] at e'
   omega))
  have HB:=hd_ hb0
  obtain⟨R,hR⟩:=nm_ (badS xs (-1))
  rw[hR] at HC⊢
  clear hb0 p0 hx hl hR hm h256
  go_enter Tryz.func36,Tryz.ntmps36
  go_wp2_with fail
  refine HC.out.mono ?_
  rintro e w' ⟨rfl,hx'⟩
  have HE:=hd_ (show Below w.heap.size w w' from HB.out.trans hx'.1)
  clear hx' hW0
  cases R with
  |false=>
   go_wp2
   go_ret
   exact⟨rfl,HE.out⟩
  |true=>
   go_wp2
   go_ret
   exact⟨rfl,HE.out⟩
 ·have hz:(256:Int)< (n:Int):=by omega
  rw[decide_eq_false h256,Bool.false_and]
  clear hx hl hm h256
  go_enter Tryz.func36,Tryz.ntmps36
  go_wp2
  go_ret
  exact⟨rfl,br_ _ _⟩
theorem timeOf_any (B:Nat→Prop)(n:Nd)(c0 c1 c2:Value)(w:World)(hn:NdC B w n c0 c1 c2):
 Calls Tryz.prog 54 #[.agg #[c0,c1,c2]] w fun e w'=>e=.returned (.int .i64 (timeN n.tag n.body))∧Below w.heap.size w w':=by
 obtain⟨t,A1,l1,k1,K1,m1,u1,rfl,rfl,rfl⟩:=hn.shape
 obtain⟨h1,h2,h3,_⟩:=body_size hn
 have ht:n.tag=t:=by
  obtain⟨t',b,ks⟩:=n
  have:=(NdC.kidsL hn).1
  simp only[Value.int.injEq,true_and] at this
  exact this.symm
 obtain⟨W0,hW0⟩:=nm_ (w.alloc (.cells #[.int .u8 t,.slice A1 l1 k1,.slice K1 m1 u1] 40))
 have hb0:Below w.heap.size w W0:=by rw[←hW0];exact below_new _ _
 have p0:W0.heap[w.heap.size]? =some (.cells #[.int .u8 t,.slice A1 l1 k1,.slice K1 m1 u1] 40):=by rw[←hW0];exact heap_new_ _ _
 obtain⟨_,x0,x1,x2⟩:=st3 p0
 rw[ht]
 have HP:=hd_ (Time_any t A1 l1 k1 n.body W0 (h3.below hb0) h1 (by unfold maxLen at h2;omega))
 obtain⟨v,hv⟩:=nm_ (timeN t n.body)
 obtain⟨er,her⟩:=nm_ (timeE t n.body)
 rw[hv,her] at HP
 rw[hv]
 have HB:=hd_ hb0
 clear hb0 p0 hn h1 h2 h3 ht hv her
 go_enter Tryz.func54,Tryz.ntmps54
 go_wp2_with fail
 refine HP.out.mono ?_
 rintro e w1 ⟨rfl,hb1⟩
 have HE:=hd_ (below_then HB.out hb1 (lr_ _))
 clear hb1 hW0 x0 x1 x2
 go_wp2
 go_ret
 exact⟨rfl,HE.out⟩
end Go.Proofs.YtconbejjagcnkaaGreatDoor.nmc
