/- Helpers for the statements' walks: a box that lies still; wo -/
import Derived.Test.YtkjkhoglkpepiaaGreatDoorNd
import Derived.Test.YtkjkhoglkpepiaaGreatDoorPe
import Derived.Test.YtkjkhoglkpepiaaGreatDoorIa
import Derived.RegionTactic
import Derived.Deep.QuietTactic
import Derived.Deep.LoopGhost
import Derived.StillTailTactics
import Derived.Deep.Heap
import Derived.Test.YtkjkhoglkpepiaaGreatDoorPb
import Derived.Test.YtkjkhoglkpepiaaGreatDoorKb
import Derived.Test.YtkjkhoglkpepiaaGreatDoorKa
import Derived.WalkLawsBesides
import Derived.BigQuiet
set_option maxRecDepth 100000
set_option maxHeartbeats 32000000
set_option linter.unusedVariables false
set_option linter.unusedSimpArgs false
namespace Go.Proofs.YtkjkhoglkpepiaaGreatDoor.ndc
open Go.RowKit tlvc tlvd txc
theorem behind_nil (x:List Int):behind [] x=false:=by
 unfold behind
 rw[show Lib.bytesOf []=[] from rfl]
 cases Lib.bytesOf x<;>rfl
theorem box_cells {W0 W:World}{B g:Nat}{a b c:Value}{T:TypeId}(hB:Below B W0 W)(hq:W0.heap[g]? =some (.cells #[a,b,c] T))(hg:g<B):
 W.cell? ⟨g,0,none⟩=some a∧W.cell? ⟨g,1,none⟩=some b∧W.cell? ⟨g,2,none⟩=some c:=by
 have h:=(hB.block g hg).trans hq
 exact⟨by rw[ch_ h];rfl,by rw[ch_ h];rfl,by rw[ch_ h];rfl⟩
theorem box_new (w:World)(a b c:Value)(T:TypeId):(w.alloc (.cells #[a,b,c] T)).heap[w.heap.size]? =some (.cells #[a,b,c] T):=heap_new_ _ _
theorem below_new (w:World)(o:Obj):Below w.heap.size w (w.alloc o):=(br_ _ _).alloc (lr_ _) _
theorem size_new (w:World)(o:Obj):(w.alloc o).heap.size=w.heap.size+1:=by simp
theorem below_then {B:Nat}{w w1 w2:World}(h:Below B w w1)(k:Below w1.heap.size w1 w2)(hB:B≤w.heap.size):Below B w w2:=h.trans (k.mono (Nat.le_trans hB h.size))
end Go.Proofs.YtkjkhoglkpepiaaGreatDoor.ndc
namespace Go.Proofs.YtkjkhoglkpepiaaGreatDoor.ndc
open Go.RowKit tlvc tlvd txc
def risingB:List (List Int)→Bool
 | []=>true
 |a::r=>match r with
  | []=>true
  |b::_=> !behind a b && risingB r
theorem rising_two (a b:List Int)(r:List (List Int)):risingB (a::b::r)=(!behind a b && risingB (b::r)):=by conv=>lhs;unfold risingB
theorem rising_at {l:List (List Int)}{i:Nat}(h:i+1<l.length):risingB (l.drop i)=(!behind (l.getD i []) (l.getD (i+1) []) && risingB (l.drop (i+1))):=by
 rw[List.drop_eq_getElem_cons (by omega),List.drop_eq_getElem_cons h,rising_two]
 simp[List.getD_eq_getElem?_getD,List.getElem?_eq_getElem (show i<l.length by omega),List.getElem?_eq_getElem h]
theorem rising_end {l:List (List Int)}{i:Nat}(h:l.length≤i+1):risingB (l.drop i)=true:=by
 rcases Nat.lt_or_ge i l.length with h1 |h1
 ·rw[List.drop_eq_getElem_cons h1,List.drop_eq_nil_of_le (by omega)];rfl
 ·rw[List.drop_eq_nil_of_le h1];rfl
theorem str_gt {xs ys:List Int}{X Y:ByteArray}(hX:strOfNums xs=X)(hY:strOfNums ys=Y):(!(Op.bytesLess X.toList Y.toList || X.toList==Y.toList))=behind xs ys:=by
 subst hX hY
 unfold behind;rw[Lib.strOfNums_toList,Lib.strOfNums_toList];exact gt8_string _ _
theorem rising_any (A:Option Addr)(n c:Nat)(l:List (List Int))(w:World)(hl:Bss w A n l)(hc:n≤c)(hm:c≤maxLen):
 Calls Tryz.prog 74 #[.slice A n c] w fun e w'=>e=.returned (.bool (risingB l))∧Below w.heap.size w w':=by
 have hn9:c≤9223372036854775807:=by unfold maxLen at hm;omega
 obtain⟨ANS,hANS⟩:=nm_ (risingB l)
 rw[hANS]
 have hln:=hl.1
 have HL:=hd_ hl
 clear hl
 by_cases hn1:n≤1
 ·have hE:ANS=true:=by
   rw[←hANS]
   have:=rising_end (l:=l) (i:=0) (by omega)
   simpa using this
  have hz: ¬(1:Int)< (n:Int):=by omega
  clear hANS
  subst hE
  go_enter Tryz.func74,Tryz.ntmps74
  go_wp2_with fail
  refine wp_loop_rounds 1 ?_;rw[rounds_succ];go_wp2
  go_ret
  exact⟨rfl,br_ _ _⟩
 ·have hst:risingB (l.drop (1 - 1))=ANS:=hANS
  have HST:=hd_ hst
  clear hst hANS
  go_enter Tryz.func74,Tryz.ntmps74
  go_wp2_with fail
  go_loopg [3] (n+1) (fun gk s3 wx=>∃(i:Nat),s3=.int .i64 i∧1≤i∧i≤n∧n - i<gk∧Hid (risingB (l.drop (i - 1))=ANS)∧Below w.heap.size w wx)
  case atStart=>exact⟨1,rfl,by omega,by omega,by omega,HST,br_ _ _⟩
  case round=>
   obtain⟨i,rfl,hi1,hi,hgk,hq,hbel⟩:=hrel
   by_cases hlt:i<n
   ·have hltz:(i:Int)< (n:Int):=by omega
    obtain⟨gk',rfl⟩: ∃g',gk=g'+1:=⟨gk - 1,by omega⟩
    obtain⟨j,hj⟩: ∃j,i=j+1:=⟨i - 1,by omega⟩
    obtain⟨b,off,rfl,hb,hcell⟩:=HL.out.2 (by omega)
    obtain⟨A1,n1,c1,q1,y1,_⟩:=hcell j (by omega)
    obtain⟨A2,n2,c2,q2,y2,_⟩:=hcell i hlt
    have p1:wr.cell? ⟨b,off+j,none⟩=some (.slice A1 n1 c1):=(hbel.cell (p:=⟨b,off+j,none⟩) hb).trans q1
    have p2:wr.cell? ⟨b,off+i,none⟩=some (.slice A2 n2 c2):=(hbel.cell (p:=⟨b,off+i,none⟩) hb).trans q2
    have s1:=fun(q:Nat)=>txc.str_now ((y1.below hbel).drewN q) c1
    have s2:=fun(q:Nat)=>txc.str_now ((y2.below hbel).drewN q) c2
    have hst:risingB (l.drop j)=(!behind (l.getD j []) (l.getD i []) && risingB (l.drop i)):=by
     subst hj
     exact rising_at (l:=l) (i:=j) (by omega)
    have hq2:=hq.out
    rw[show i - 1=j by omega,hst] at hq2
    obtain⟨X,hX⟩:=nm_ (strOfNums (l.getD j []))
    obtain⟨Y,hY⟩:=nm_ (strOfNums (l.getD i []))
    have hgt:=str_gt hX hY
    rw[hX] at s1
    rw[hY] at s2
    obtain⟨r,hr⟩:=nm_ (behind (l.getD j []) (l.getD i []))
    rw[hr] at hq2 hgt
    have Q2:=hd_ hq2
    have hwj:IntKind.i64.wrap ((i:Int) - 1)=(j:Int):=by rw[IntWalk.i64_in _ (by omega)];omega
    have i1:(0:Int)≤(i:Int):=by omega
    have i3:(0:Int)≤(j:Int):=by omega
    have i4:(j:Int)< (n:Int):=by omega
    have hji:j<i:=by omega
    obtain⟨l1,hl1⟩:=nm_ (Op.bytesLess X.toList Y.toList)
    obtain⟨e1,he1⟩:=nm_ ((X.toList==Y.toList))
    rw[hl1,he1] at hgt
    clear hst hq2 hr hX hY y1 y2 q1 q2 hcell hj hq
    have hne:e1=false→¬X.toList=Y.toList:=fun h=>by rw[h] at he1;simpa using he1
    have heq:e1=true→X.toList=Y.toList:=fun h=>by rw[h] at he1;simpa using he1
    go_wp2_with fail
    cases r with
    |true=>
     obtain⟨rfl,rfl⟩:l1=false∧e1=false:=by simpa using hgt
     have hE:ANS=false:=by rw[←Q2.out];rfl
     have n1':=hne rfl
     clear hne heq hgt Q2
     subst hE
     go_quiet (fail)
     go_wp2
     go_ret
     exact⟨rfl,⟨hbel.os,hbel.tape,hbel.output,hbel.size,hbel.block⟩⟩
    |false=>
     have Q3:Hid (risingB (l.drop (i+1 - 1))=ANS):=hd_ (by have:=Q2.out;exact this)
     clear Q2
     cases l1
     ·cases e1
      ·cases hgt
      ·have n1':=heq rfl
       have N1:=hd_ n1'
       clear hne heq hgt n1'
       go_quiet (fail)
       go_wp2
       go_roundg gk'
       case measure=>omega
       case rel=>exact⟨i+1,by go_num,by omega,by omega,by omega,Q3,⟨hbel.os,hbel.tape,hbel.output,hbel.size,hbel.block⟩⟩
     ·clear hne heq hgt
      go_quiet (fail)
      go_wp2
      go_roundg gk'
      case measure=>omega
      case rel=>exact⟨i+1,by go_num,by omega,by omega,by omega,Q3,⟨hbel.os,hbel.tape,hbel.output,hbel.size,hbel.block⟩⟩
   ·have hltz: ¬(i:Int)< (n:Int):=by omega
    have hE:ANS=true:=by rw[←hq.out];exact rising_end (by omega)
    clear hq HST
    subst hE
    go_wp2
    go_ret
    exact⟨rfl,hbel⟩
theorem add_falls: ∀(bs:List (List Int)) (k:WK),(bs.foldl WK.add k).falls=(k.falls || !risingB (k.last::bs))
 | [],k=>by simp[risingB]
 |b::bs,k=>by
  rw[List.foldl_cons,add_falls bs,rising_two]
  unfold WK.add
  simp only
  cases behind k.last b<;>cases k.falls<;>simp
theorem rising_nil (bs:List (List Int)):risingB ([]::bs)=risingB bs:=by
 cases bs with
 |nil=>rfl
 |cons b r=>rw[rising_two,behind_nil];simp
theorem add_body: ∀(bs:List (List Int)) (k:WK),(k.body.length≤65535→k.body.length+bs.flatten.length≤65535→(bs.foldl WK.add k).body=k.body++bs.flatten)∧(65535<k.body.length+bs.flatten.length→65535< (bs.foldl WK.add k).body.length)
 | [],k=>by simp
 |b::bs,k=>by
  rw[List.foldl_cons]
  obtain⟨h1,h2⟩:=add_body bs (k.add b)
  constructor
  ·intro hk hl
   rw[List.flatten_cons,List.length_append] at hl
   have e:(k.add b).body=k.body++b:=by unfold WK.add;simp only;rw[if_pos hk]
   rw[h1 (by rw[e,List.length_append];omega) (by rw[e,List.length_append];omega),e,List.flatten_cons,List.append_assoc]
  ·intro hl
   rw[List.flatten_cons,List.length_append] at hl
   by_cases hk:k.body.length≤65535
   ·have e:(k.add b).body=k.body++b:=by unfold WK.add;simp only;rw[if_pos hk]
    exact h2 (by rw[e,List.length_append];omega)
   ·have e:(k.add b).body=k.body:=by unfold WK.add;simp only;rw[if_neg hk]
    exact h2 (by rw[e];omega)
def bytesL:List Nd→Nat→List (List Int)→Option (List (List Int)) × Int
 | [],_,bs=>(some bs,0)
 |n::ns,o,bs=>
  match writeF n o with
  | .no e=>(none,e)
  | .ok b=>bytesL ns o (bs++[b])
theorem writeL_bytes: ∀(ns:List Nd) (o:Nat) (bs:List (List Int)),writeL ns o (bs.foldl WK.add wk0)=match bytesL ns o bs with | (some l,_)=>.ok (l.foldl WK.add wk0) | (none,e)=>.no e
 | [],o,bs=>by unfold writeL bytesL;rfl
 |n::ns,o,bs=>by
  unfold writeL bytesL
  cases hw:writeF n o with
  |no e=>rfl
  |ok b=>
   simp only
   have:=writeL_bytes ns o (bs++[b])
   rw[List.foldl_append] at this
   exact this
theorem finW_all {t:Int}(he:endlessB t=false){l:List (List Int)}:finW t (kresF t (.ok (l.foldl WK.add wk0)))=if t=49∧risingB l=false then .no 42 else putW t l.flatten:=by
 have hf:(l.foldl WK.add wk0).falls= !risingB l:=by
  rw[add_falls]
  show(false || !risingB ([]::l))=_
  rw[rising_nil];simp
 unfold kresF
 simp only
 rw[hf]
 by_cases h:t=49∧risingB l=false
 ·rw[if_pos h,if_pos ⟨h.1,by rw[h.2];rfl⟩];rfl
 ·rw[if_neg h,if_neg (fun k=>h ⟨k.1,by simpa using k.2⟩)]
  unfold finW
  simp only
  obtain⟨h1,h2⟩:=add_body l wk0
  by_cases hl:l.flatten.length≤65535
  ·rw[h1 (by show 0≤65535;omega) (by show 0+_≤65535;omega)];rfl
  ·have hb:=h2 (by show 65535<0+_;omega)
   have e1: ∀xs:List Int,65535<xs.length→putW t xs=.no 2:=fun xs h=>by
    have e:putF t xs=([],2):=by unfold putF;rw[he,if_neg (by simp),if_pos h]
    unfold putW
    rw[e];rfl
   rw[e1 _ hb,e1 _ (by omega)]
end Go.Proofs.YtkjkhoglkpepiaaGreatDoor.ndc
namespace Go.Proofs.YtkjkhoglkpepiaaGreatDoor.ndc
open Go.RowKit tlvc tlvd txc
theorem Tryz.infoBytes:(Tryz.prog.info? 34).map (fun i=>(i.zero,i.size,i.bytes))=some (some (.slice none 0 0),1,24):=by kernel_rfl
theorem app_row (w:World)(base:Nat)(v:Value)(n:Nat)(cs:List Value)(hown:w.ownsRow base 34 1 v n cs)(g:Nat)(c0:Value)(h0:w.cell? ⟨g,0,none⟩=some c0)(o0:c0.oneCell'=true)(hn:n≤100000)(hbase:base≤w.heap.size):
 ∃v' w',(Builtin.append_ #[121,121] 121 #[v,.slice (some ⟨g,0,none⟩) 1 1]).run Tryz.prog w=.ok v' w'∧w'.ownsRow base 34 1 v' (n+1) (cs++[c0])∧w.grownBy w' v.ownBlock∧(v'.ownBlock=v.ownBlock∨ ∃g',v'.ownBlock=some g'∧w.heap.size≤g'):=by
 obtain⟨i0,hi,hz0,hz1,hz2⟩:=info_parts Tryz.infoBytes
 obtain⟨v',w',h1,h2,h3,_,h5⟩:=app_gen (P:=Tryz.prog) w base 121 121 34 i0 (.slice none 0 0) 1 24 Tryz.underlying121 hi hz0 hz1 hz2 rfl (by decide) v n cs hown ⟨g,0,none⟩ 1 1 [c0] rfl
  (fun j u hu=>by
    rw[Addr.add_lit,Nat.zero_add]
    match j,hu with
    |0,hu=>cases hu;exact h0
    |j+1,hu=>simp at hu) (fun u hu=>by rw[List.mem_singleton] at hu;subst hu;exact o0) (by unfold maxLen;omega) (by omega) hbase
 exact⟨v',w',h1,h2,h3,h5⟩
theorem app_many (w:World)(base:Nat)(v:Value)(n:Nat)(cs:List Value)(hown:w.ownsRow base 5 1 v n cs)(A:Option Addr)(m c:Nat)(ys:List Int)(hb:Bys w A m ys)(hn:n+m≤100000000000)(hbase:base≤w.heap.size):
 ∃v' w',(Builtin.append_ #[34,34] 34 #[v,.slice A m c]).run Tryz.prog w=.ok v' w'∧w'.ownsRow base 5 1 v' (n+m) (cs++vals ys)∧w.grownBy w' v.ownBlock∧(v'.ownBlock=v.ownBlock∨ ∃g',v'.ownBlock=some g'∧w.heap.size≤g'):=by
 obtain⟨i0,hi,hz0,hz1,hz2⟩:=info_parts intc.Tryz.info5
 rcases A with _ |ad
 ·have hm:m=0:=by
   rcases Nat.eq_zero_or_pos m with h0 |h0
   ·exact h0
   ·obtain⟨b,off,h,_⟩:=hb.2.2 h0
    cases h
  subst hm
  have hn:ys=[]:=List.eq_nil_of_length_eq_zero hb.1
  subst hn
  exact⟨v,w,run_app_nil w base 34 34 5 i0 Tryz.underlying34 hi v n cs hown c,by simpa[vals] using hown,World.grownBy.refl w _,.inl rfl⟩
 ·obtain⟨v',w',h1,h2,h3,_,h5⟩:=app_gen (P:=Tryz.prog) w base 34 34 5 i0 (.int .u8 0) 1 1 Tryz.underlying34 hi hz0 hz1 hz2 rfl (by decide) v n cs hown ad m c (vals ys) (by rw[vals_length,hb.1];omega)
   (fun j u hu=>by
     have hj:j<ys.length:=by
      have:=(List.getElem?_eq_some_iff.1 hu).1
      rwa[vals_length] at this
     obtain⟨b,off,h,_,hc⟩:=hb.2.2 (by have:=hb.1;omega)
     cases h
     rw[Addr.add_lit,hc j (by have:=hb.1;omega),←hu]
     simp[vals,List.getD_eq_getElem?_getD,List.getElem?_eq_getElem hj]) (vals_one ys) (by unfold maxLen;omega) (by omega) hbase
  exact⟨v',w',h1,h2,h3,h5⟩
structure PInv (w:World) (bs:List (List Int)) (vs:List Value) (v7 v8:Value) (wx:World):Prop where
 bel:Below w.heap.size w wx
 row:wx.ownsRow w.heap.size 34 1 v7 bs.length vs
 each: ∀j,j<bs.length→∃A n c,vs[j]? =some (.slice A n c)∧Bys wx A n (bs.getD j [])∧n≤c∧c≤maxLen∧∀g off sp,A=some ⟨g,off,sp⟩→some g≠v7.ownBlock∧some g≠v8.ownBlock∧g<wx.heap.size
 own:wx.ownsRow w.heap.size 5 1 v8 bs.flatten.length (vals bs.flatten)
 ne:v7.ownBlock=none∨v7.ownBlock≠v8.ownBlock
 fit:Fit bs.flatten
theorem PInv.start (w:World):PInv w [] [] (.slice none 0 0) (.slice none 0 0) w:=
 ⟨br_ _ _,World.ownsRow_nil _ _ _ _,fun j hj=>absurd hj (by simp),World.ownsRow_nil _ _ _ _,.inl rfl,fun x hx=>absurd hx (by simp)⟩
theorem PInv.below {w wx wy:World}{bs:List (List Int)}{vs:List Value}{v7 v8:Value}(h:PInv w bs vs v7 v8 wx)(hb:Below wx.heap.size wx wy):PInv w bs vs v7 v8 wy:=by
 have h1:=h.row
 have h2:=h.each
 refine⟨h.bel.trans (hb.mono h.bel.size),own_below h1 hb,fun j hj=>?_,own_below h.own hb,h.ne,h.fit⟩
 obtain⟨A,n,c,e1,e2,e3,e4,e5⟩:=h2 j hj
 exact⟨A,n,c,e1,e2.below hb,e3,e4,fun g off sp e=>⟨(e5 g off sp e).1,(e5 g off sp e).2.1,Nat.lt_of_lt_of_le (e5 g off sp e).2.2 hb.size⟩⟩
theorem own_lt {w:World}{base:Nat}{e:TypeId}{v:Value}{n:Nat}{xs:List Value}(h:w.ownsRow base e 1 v n xs){g:Nat}(hg:v.ownBlock=some g):base≤g∧g<w.heap.size:=h.lt g hg
theorem PInv.own8 {w wx w1 w2:World}{bs:List (List Int)}{vs:List Value}{v7 v8:Value}(h:PInv w bs vs v7 v8 wx)(hn1:Below wx.heap.size wx w1)(g7:w1.grownBy w2 v7.ownBlock):w2.ownsRow w.heap.size 5 1 v8 bs.flatten.length (vals bs.flatten):=by
 refine(own_below h.own hn1).kept g7 ?_
 rcases h.ne with e |e
 ·cases h8:v8.ownBlock with
  |none=>exact .inl rfl
  |some g=>exact .inr (by rw[e];simp)
 ·exact .inr (fun k=>e k.symm)
theorem PInv.step {w wx w1 w2 w3:World}{bs:List (List Int)}{vs:List Value}{v7 v8 v7' v8':Value}(h:PInv w bs vs v7 v8 wx){A:Option Addr}{n c:Nat}{b:List Int}(hb:Bys wx A n b)(hc:n≤c∧c≤maxLen)
 (hfar: ∀g off sp,A=some ⟨g,off,sp⟩→some g≠v7.ownBlock∧some g≠v8.ownBlock∧g<wx.heap.size)
 (h1:w1=wx.alloc (.cells #[.slice A n c] 34))
 (ho7:w2.ownsRow w.heap.size 34 1 v7' (bs.length+1) (vs++[.slice A n c])) (g7:w1.grownBy w2 v7.ownBlock) (b7:v7'.ownBlock=v7.ownBlock∨ ∃g',v7'.ownBlock=some g'∧w1.heap.size≤g')
 (ho8:w3.ownsRow w.heap.size 5 1 v8' (bs.flatten.length+n) (vals bs.flatten++vals b)) (g8:w2.grownBy w3 v8.ownBlock) (b8:v8'.ownBlock=v8.ownBlock∨ ∃g',v8'.ownBlock=some g'∧w2.heap.size≤g'):
 PInv w (bs++[b]) (vs++[.slice A n c]) v7' v8' w3:=by
 have hn1:Below wx.heap.size wx w1:=by rw[h1];exact below_new _ _
 have hv1:=h.row
 have hv2:=h.each
 have hz1:w1.heap.size=wx.heap.size+1:=by rw[h1];simp
 have hz2:=g7.size
 have hz3:=g8.size
 have stay: ∀g,g<wx.heap.size→some g≠v7.ownBlock→some g≠v8.ownBlock→w3.heap[g]? =wx.heap[g]? :=fun g hg n7 n8=>by
  rw[g8.block g (by omega) n8,g7.block g (by omega) n7,h1,heap_old_ _ _ hg]
 have keepB: ∀{A':Option Addr} {m:Nat} {xs:List Int},Bys wx A' m xs→(∀g off sp,A'=some ⟨g,off,sp⟩→some g≠v7.ownBlock∧some g≠v8.ownBlock∧g<wx.heap.size)→Bys w3 A' m xs:=fun {A' m xs} hA hn=>by
  refine bys_stays (B:=fun g=>some g≠v7.ownBlock∧some g≠v8.ownBlock) ⟨by omega,fun p hp hl=>cell_same (stay p.block hl hp.1 hp.2)⟩ hA (fun _ g off sp e=>⟨(hn g off sp e).1,(hn g off sp e).2.1⟩)
 have new7: ∀g,some g≠v7.ownBlock→g<wx.heap.size→some g≠v7'.ownBlock:=fun g hn hl e=>by
  rcases b7 with k | ⟨g',k,hg'⟩
  ·rw[k] at e;exact hn e
  ·rw[k] at e;cases e;omega
 have new8: ∀g,some g≠v8.ownBlock→g<wx.heap.size→some g≠v8'.ownBlock:=fun g hn hl e=>by
  rcases b8 with k | ⟨g',k,hg'⟩
  ·rw[k] at e;exact hn e
  ·rw[k] at e;cases e;omega
 have l8: ∀g,v8.ownBlock=some g→g<wx.heap.size:=fun g hg=>(own_lt h.own hg).2
 have hne':v7'.ownBlock=none∨v7'.ownBlock≠v8'.ownBlock:=by
  rcases b7 with k7 | ⟨g7',k7,hg7⟩
  ·rcases h.ne with e |e
   ·exact .inl (k7.trans e)
   ·rcases b8 with k8 | ⟨g8',k8,hg8⟩
    ·exact .inr (by rw[k7,k8];exact e)
    ·right
     rw[k7,k8]
     intro e2
     have:=(own_lt hv1 e2).2
     omega
  ·right
   rw[k7]
   intro e2
   rcases b8 with k8 | ⟨g8',k8,hg8⟩
   ·rw[k8] at e2;have:=l8 _ e2.symm;omega
   ·rw[k8] at e2;cases e2
    have:=(own_lt ho7 k7).2
    omega
 have hlen:(bs++[b]).length=bs.length+1:=by simp
 have hfl:(bs++[b]).flatten=bs.flatten++b:=by simp
 have hnb:b.length=n:=hb.1
 have ho7w3:w3.ownsRow w.heap.size 34 1 v7' (bs.length+1) (vs++[.slice A n c]):=by
  refine ho7.kept g8 ?_
  rcases b7 with k7 | ⟨g7',k7,hg7⟩
  ·rcases h.ne with e |e
   ·exact .inl (k7.trans e)
   ·exact .inr (by rw[k7];exact e)
  ·refine .inr ?_
   rw[k7]
   intro e2
   have:=l8 _ e2.symm;omega
 have hvl:vs.length=bs.length:=by have:=hv1.1;omega
 refine⟨?_,by rw[hlen];exact ho7w3,fun j hj=>?_,by rw[hfl,vals_append,List.length_append,hnb];exact ho8,hne',by rw[hfl];exact h.fit.app hb.2.1⟩
 ·refine⟨?_,?_,?_,by have:=h.bel.size;omega,fun g hg=>?_⟩
  ·rw[g8.os,g7.os,hn1.os];exact h.bel.os
  ·rw[g8.tape,g7.tape,hn1.tape];exact h.bel.tape
  ·rw[g8.output,g7.output,hn1.output];exact h.bel.output
  ·rw[stay g (by have:=h.bel.size;omega) (fun e=>by have:=(own_lt hv1 e.symm).1;omega) (fun e=>by have:=(own_lt h.own e.symm).1;omega)]
   exact h.bel.block g hg
 ·rw[hlen] at hj
  by_cases hlt:j<bs.length
  ·obtain⟨A',n',c',e1,e2,e3,e4,e5⟩:=hv2 j hlt
   have hg:(bs++[b]).getD j []=bs.getD j []:=by simp[List.getD_eq_getElem?_getD,List.getElem?_append_left hlt]
   refine⟨A',n',c',by rw[List.getElem?_append_left (by omega)];exact e1,by rw[hg];exact keepB e2 e5,e3,e4,fun g off sp e=>⟨new7 g (e5 g off sp e).1 (e5 g off sp e).2.2,new8 g (e5 g off sp e).2.1 (e5 g off sp e).2.2,by have:=(e5 g off sp e).2.2;omega⟩⟩
  ·obtain rfl:j=bs.length:=by omega
   have hg:(bs++[b]).getD bs.length []=b:=by simp[List.getD_eq_getElem?_getD]
   refine⟨A,n,c,by rw[List.getElem?_append_right (by omega),hvl,Nat.sub_self];rfl,by rw[hg];exact keepB hb hfar,hc.1,hc.2,fun g off sp e=>⟨new7 g (hfar g off sp e).1 (hfar g off sp e).2.2,new8 g (hfar g off sp e).2.1 (hfar g off sp e).2.2,by have:=(hfar g off sp e).2.2;omega⟩⟩
theorem PInv.reads {w wx:World}{bs:List (List Int)}{vs:List Value}{v7 v8:Value}(h:PInv w bs vs v7 v8 wx): ∃L c,v7=.slice L bs.length c∧bs.length≤c∧c≤maxLen∧Bss wx L bs.length bs:=by
 have hv1:=h.row
 have hv2:=h.each
 obtain⟨L,c,e,h1,h2,h3⟩:=own_shape hv1
 refine⟨L,c,e,h1,h2,rfl,fun hn=>?_⟩
 obtain⟨g,hL,hg1,hg2⟩:=h3 0 hn
 subst hL
 refine⟨g,0,rfl,hg2,fun j hj=>?_⟩
 obtain⟨A,n,c',e1,e2,e3,e4,_⟩:=hv2 j hj
 subst e
 exact⟨A,n,c',by rw[Nat.zero_add,hv1.cellAt j (by omega)];exact e1,e2,e3,e4⟩
end Go.Proofs.YtkjkhoglkpepiaaGreatDoor.ndc
namespace Go.Proofs.YtkjkhoglkpepiaaGreatDoor.ndc
open Go.RowKit tlvc tlvd txc
theorem w_deep {t:Int}{b:List Int}{ks:List Nd}{o:Nat}(h:32≤o):writeF (.mk t b ks) o=.no 41:=by
 unfold writeF
 have e:aloneF t b o=41:=by rw[aloneF_own,if_pos h]
 rw[e,if_pos (by decide)]
theorem own_tag {t:Int}{b:List Int}(h:tagF t≠0):ownF t b=tagF t:=by
 by_cases hc:32≤t%64
 ·exact(own_comp hc).symm
 ·have:=own_plain (t:=t) (xs:=b) ⟨by omega,by omega⟩
  rw[if_neg h] at this
  exact this.symm
theorem w_tag {t:Int}{b:List Int}{ks:List Nd}{o:Nat}(h: ¬32≤o)(ht:tagF t≠0):writeF (.mk t b ks) o=.no (tagF t):=by
 unfold writeF
 have e:aloneF t b o=tagF t:=by rw[aloneF_own,if_neg h,own_tag ht]
 rw[e,if_pos ht]
theorem w_plain {t:Int}{b:List Int}{ks:List Nd}{o:Nat}(h: ¬32≤o)(ht:tagF t=0)(hc:compB t=false):
 writeF (.mk t b ks) o=if 0<ks.length then .no 43 else if bodyB t b=true then putW t b else .no 43:=by
 have hcp: ¬32≤t%64:=by unfold compB at hc;simpa using hc
 have hown:=own_plain (t:=t) (xs:=b) ⟨by omega,by omega⟩
 rw[if_pos ht] at hown
 unfold writeF
 rw[aloneF_own,if_neg h,←hown]
 have hm:misF t b ks.length=decide (0<ks.length):=by unfold misF;rw[hc];simp
 rw[hm,hc]
 unfold bodyF
 by_cases hb:bodyB t b=true
 ·rw[if_pos hb,if_neg (by decide)]
  by_cases hk:0<ks.length
  ·rw[if_pos (decide_eq_true hk),if_pos hk]
  ·rw[if_neg (by simpa using hk),if_neg hk,if_pos hb,if_neg (by decide)]
 ·rw[if_neg hb,if_pos (by decide)]
  by_cases hk:0<ks.length
  ·rw[if_pos hk]
  ·rw[if_neg hk,if_neg hb]
theorem w_comp {t:Int}{b:List Int}{ks:List Nd}{o:Nat}(hr:0≤t∧t≤255)(h: ¬32≤o)(ht:tagF t=0)(hc:compB t=true):
 writeF (.mk t b ks) o=if 0<b.length then .no 43 else match bytesL ks (o+1) [] with | (none,e)=>.no e | (some l,_)=>if t=49∧risingB l=false then .no 42 else putW t l.flatten:=by
 have hcp:32≤t%64:=by unfold compB at hc;simpa using hc
 have hend:endlessB t=false:=by
  unfold tagF at ht
  by_cases h31:t%32=31
  ·rw[if_pos h31] at ht;cases ht
  ·rw[endless_mod t hr.1 hr.2]
   simpa using h31
 unfold writeF
 rw[aloneF_own,if_neg h,←own_comp hcp,ht,if_neg (by decide)]
 have hm:misF t b ks.length=decide (0<b.length):=by unfold misF;rw[hc];simp
 rw[hm,hc]
 by_cases hb:0<b.length
 ·rw[if_pos (decide_eq_true hb),if_pos hb]
 ·rw[if_neg (by simpa using hb),if_neg hb,if_pos rfl]
  have hw:=writeL_bytes ks (o+1) []
  rw[List.foldl_nil] at hw
  rw[hw]
  cases hb2:bytesL ks (o+1) [] with
  |mk a e=>
   cases a with
   |none=>rfl
   |some l=>exact finW_all hend
end Go.Proofs.YtkjkhoglkpepiaaGreatDoor.ndc
namespace Go.Proofs.YtkjkhoglkpepiaaGreatDoor.ndc
open Go.RowKit tlvc tlvd txc
theorem szL_len: ∀ks:List Nd,ks.length≤szL ks
 | []=>by simp
 |k::ks=>by
  have h:=szL_len ks
  have:1≤szN k:=by obtain⟨t,b,l⟩:=k;unfold szN;omega
  unfold szL
  simp only[List.length_cons]
  omega
theorem bytes_drop {ks:List Nd}{i o:Nat}(h:i<ks.length)(bs:List (List Int)):bytesL (ks.drop i) o bs=match writeF ks[i] o with | .no e=>(none,e) | .ok b=>bytesL (ks.drop (i+1)) o (bs++[b]):=by
 rw[List.drop_eq_getElem_cons h]
 conv=>lhs;unfold bytesL
 (try (cases writeF ks[i] o<;>rfl))
def DPost (w:World)(r:WR)(e:Ending)(w':World):Prop:=
 Below w.heap.size w w'∧match r with
 | .no er=>∃A c,e=.returned (.tuple #[.slice A 0 c,.int .i64 er])
 | .ok b=>∃A c,e=.returned (.tuple #[.slice A b.length c,.int .i64 0])∧Bys w' A b.length b∧(b.length≤c∧c≤maxLen)∧∀g off sp,A=some ⟨g,off,sp⟩→w.heap.size≤g
theorem put_post {w w2 w':World}{t:Int}{xs:List Int}{R:WR}{A:Option Addr}{c:Nat}(h:R=putW t xs)(hb:Below w.heap.size w w')(hy:Bys w' A (putF t xs).1.length (putF t xs).1)(hc:(putF t xs).1.length≤c∧c≤maxLen)(hf: ∀b off,A=some ⟨b,off,none⟩→w2.heap.size≤b)(hz:w.heap.size≤w2.heap.size):
 DPost w R (.returned (.tuple #[.slice A (putF t xs).1.length c,.int .i64 (putF t xs).2])) w':=by
 subst h
 refine⟨hb,?_⟩
 unfold putW
 by_cases h0:(putF t xs).2=0
 ·rw[if_pos h0]
  refine⟨A,c,by rw[h0],hy,hc,fun g off sp e=>?_⟩
  have hpos:=putF_pos h0
  obtain⟨b',off',e',_⟩:=hy.2.2 hpos
  have:=hf b' off' e'
  rw[e'] at e;cases e;omega
 ·rw[if_neg h0]
  have hx:(putF t xs).1=[]:=by
   unfold putF at h0⊢
   split
   ·rfl
   ·rename_i h1
    rw[if_neg h1] at h0
    split
    ·rfl
    ·rename_i h2
     rw[if_neg h2] at h0
     exact absurd rfl h0
  exact⟨A,c,by rw[hx];rfl⟩
def Prints (n:Nd):Prop:=∀(B:Nat→Prop) (v:Value) (deep:Nat) (w:World),deep≤32→NdV B w n v→Tabs w→Calls Tryz.prog 33 #[v,.int .i64 deep] w (DPost w (writeF n deep))
theorem pr_no {w w':World}{e:Int}(h:Below w.heap.size w w'):DPost w (.no e) (.returned (.tuple #[.slice none 0 0,.int .i64 e])) w':=⟨h,none,0,rfl⟩
theorem printed_step (t:Int)(b:List Int)(ks:List Nd)(hsz:szL ks≤20000)(hk: ∀k∈ks,Prints k)(hTm:TimeH t):Prints (.mk t b ks):=by
 intro B v deep w hdp hv hT
 have HTm:=hd_ hTm
 clear hTm
 obtain⟨c0,c1,c2,rfl,hc⟩:=hv
 unfold NdC at hc
 obtain⟨rfl,ht,⟨A,la,ca,rfl,hA1,hA2,hA3,_⟩,K,ck,rfl,hK1,hK2,hK3⟩:=hc
 obtain⟨W0,hW0⟩:=nm_ (w.alloc (.cells #[.int .u8 t,.slice A la ca,.slice K ks.length ck] 43))
 have hbw:Below w.heap.size w W0:=by rw[←hW0];exact below_new _ _
 have q0:W0.heap[w.heap.size]? =some (.cells #[.int .u8 t,.slice A la ca,.slice K ks.length ck] 43):=by rw[←hW0];exact box_new _ _ _ _ _
 have hzz:w.heap.size<W0.heap.size:=by rw[←hW0];simp
 have hbx: ∀W,Below W0.heap.size W0 W→W.cell? ⟨w.heap.size,0,none⟩=some (.int .u8 t)∧W.cell? ⟨w.heap.size,1,none⟩=some (.slice A la ca)∧W.cell? ⟨w.heap.size,2,none⟩=some (.slice K ks.length ck):=fun W hW=>box_cells hW q0 hzz
 have hby: ∀W,Below W0.heap.size W0 W→Bys W A la b:=fun W hW=>hA3.below (hbw.trans (hW.mono hbw.size))
 have hTT: ∀W,Below W0.heap.size W0 W→Tabs W:=fun W hW=>hT.below (hbw.trans (hW.mono hbw.size))
 have htg:=fun W=>refTag_any t W ht
 have hbits:=comp_bits ht
 have hw0:32≤deep→writeF (.mk t b ks) deep=.no 41:=w_deep
 have hw1: ¬32≤deep→tagF t≠0→writeF (.mk t b ks) deep=.no (tagF t):=w_tag
 have hw2: ¬32≤deep→tagF t=0→compB t=false→writeF (.mk t b ks) deep=if 0<ks.length then .no 43 else if bodyB t b=true then putW t b else .no 43:=w_plain
 have hw3: ¬32≤deep→tagF t=0→compB t=true→writeF (.mk t b ks) deep=if 0<b.length then .no 43 else match bytesL ks (deep+1) [] with | (none,e)=>.no e | (some l,_)=>if t=49∧risingB l=false then .no 42 else putW t l.flatten:=w_comp ht
 rw[hA3.1] at hw3
 obtain⟨RES,hRES⟩:=nm_ (writeF (.mk t b ks) deep)
 rw[hRES] at hw0 hw1 hw2 hw3⊢
 obtain⟨tg,htgv⟩:=nm_ (tagF t)
 rw[htgv] at htg hw1 hw2 hw3
 obtain⟨cp,hcp⟩:=nm_ (compB t)
 rw[hcp] at hbits hw2 hw3
 have hnl:=szL_len ks
 have HBX:=hd_ hbx
 have HBY:=hd_ hby
 have HT:=hd_ hTT
 have HBW:=hd_ hbw
 have HTG:=hd_ htg
 have H0:=hd_ hw0
 have H1:=hd_ hw1
 have H2:=hd_ hw2
 have H3:=hd_ hw3
 have HK:=hd_ hk
 have HK3:=hd_ hK3
 obtain⟨j0,j1,j2⟩:=hbx _ (br_ _ _)
 obtain⟨lk,hlk⟩:=nm_ (ks.length)
 rw[hlk] at hW0 hK1 j2 HBX H2 hnl⊢
 have HLK:=hd_ hlk
 have hK9:ck≤9223372036854775807:=by unfold maxLen at hK2;omega
 have hA9:ca≤9223372036854775807:=by unfold maxLen at hA2;omega
 clear hRES htgv hcp hbx hby hTT htg hw0 hw1 hw2 hw3 hk hK3 hbw hA3 q0 hzz hT hlk
 by_cases h32:32≤deep
 ·have hz:(32:Int)≤(deep:Int):=by omega
  have hE:=H0.out h32
  clear H0 H1 H2 H3 hbits
  subst hE
  go_enter Tryz.func33,Tryz.ntmps33
  go_wp2
  go_ret2
  exact pr_no HBW.out
 ·have hz: ¬(32:Int)≤(deep:Int):=by omega
  by_cases htz:tg=0
  ·subst htz
   cases cp with
   |false=>
    have hb0:(bits .and .u8 t 32==0)=true:=by cases hx:(bits .and .u8 t 32==0) with |true=>rfl |false=>(rw[bne,hx] at hbits;cases hbits)
    have hR:=H2.out h32 rfl rfl
    clear H0 H1 H2 H3 hbits
    by_cases hlk0:0<lk
    ·have hlz:(0:Int)< (lk:Int):=by omega
     rw[if_pos hlk0] at hR
     subst hR
     go_enter Tryz.func33,Tryz.ntmps33
     go_wp2_with fail
     refine(HTG.out _).mono ?_
     rintro e w1 ⟨rfl,rfl⟩
     go_wp2
     go_ret2
     exact pr_no HBW.out
    ·have hlz: ¬(0:Int)< (lk:Int):=by omega
     rw[if_neg hlk0] at hR
     have hbd:=refBodyH_any t A la ca b W0 ht (HBY.out _ (br_ _ _)) hA1 hA2 (HT.out _ (br_ _ _)) HTm.out
     unfold bodyF at hbd
     by_cases hbb:bodyB t b=true
     ·rw[if_pos hbb] at hR hbd
      have HBD:=hd_ hbd
      have HR:=hd_ hR
      clear hbd hR
      go_enter Tryz.func33,Tryz.ntmps33
      go_wp2_with fail
      refine(HTG.out _).mono ?_
      rintro e w1 ⟨rfl,rfl⟩
      go_wp2_with fail
      refine HBD.out.mono ?_
      rintro e w2 ⟨rfl,hb2⟩
      obtain⟨k0,k1,k2⟩:=HBX.out _ hb2
      have hpt:=refPut_all t A la ca b w2 ht (HBY.out _ hb2)
      have HPT:=hd_ hpt
      clear hpt HBD
      go_wp2_with fail
      refine HPT.out.mono ?_
      rintro e w3 ⟨A3,c3,rfl,hy3,hc3,hf3,hb3⟩
      have hend:=HBW.out.trans ((below_then hb2 hb3 (lr_ _)).mono HBW.out.size)
      have hfin:DPost w RES (.returned (.tuple #[.slice A3 (putF t b).1.length c3,.int .i64 (putF t b).2])) w3:=put_post HR.out hend hy3 hc3 hf3 (Nat.le_trans HBW.out.size hb2.size)
      have HF:=hd_ hfin
      obtain⟨xx,hxx⟩:=nm_ ((putF t b).1.length)
      obtain⟨er,her⟩:=nm_ ((putF t b).2)
      rw[hxx,her] at HF⊢
      clear hfin hend hy3 hc3 hf3 hb3 HPT hxx her
      go_wp2
      go_ret2
      exact HF.out
     ·rw[if_neg hbb] at hR hbd
      subst hR
      have HBD:=hd_ hbd
      clear hbd
      go_enter Tryz.func33,Tryz.ntmps33
      go_wp2_with fail
      refine(HTG.out _).mono ?_
      rintro e w1 ⟨rfl,rfl⟩
      go_wp2_with fail
      refine HBD.out.mono ?_
      rintro e w2 ⟨rfl,hb2⟩
      have hend:=HBW.out.trans (hb2.mono HBW.out.size)
      clear HBD
      go_wp2
      go_ret2
      exact pr_no hend
   |true=>
    have hb0:(bits .and .u8 t 32==0)=false:=by cases hx:(bits .and .u8 t 32==0) with |false=>rfl |true=>(rw[bne,hx] at hbits;cases hbits)
    have hR:=H3.out h32 rfl rfl
    clear H0 H1 H2 H3 hbits
    by_cases hla0:0<la
    ·have hlz:(0:Int)< (la:Int):=by omega
     rw[if_pos hla0] at hR
     subst hR
     go_enter Tryz.func33,Tryz.ntmps33
     go_wp2_with fail
     refine(HTG.out _).mono ?_
     rintro e w1 ⟨rfl,rfl⟩
     go_wp2
     go_ret2
     exact pr_no HBW.out
    ·have hlz: ¬(0:Int)< (la:Int):=by omega
     rw[if_neg hla0] at hR
     obtain⟨Q,hQ⟩:=nm_ (bytesL ks (deep+1) [])
     rw[hQ] at hR
     have HR:=hd_ hR
     have HQ:=hd_ hQ
     clear hR hQ
     go_enter Tryz.func33,Tryz.ntmps33
     go_wp2_with fail
     refine(HTG.out _).mono ?_
     rintro e w1 ⟨rfl,rfl⟩
     go_wp2_with fail
     clear j0 j1 j2 hW0 HTG
     go_loopg [7,8,9] (lk+1) (fun gk s7 s8 s9 wx=>∃(i:Nat) (bs:List (List Int)) (vs:List Value) (v7 v8:Value),v7=s7∧v8=s8∧s9=.int .i64 i∧i≤lk∧lk - i<gk∧bs.length=i∧bs.flatten.length≤i*65539∧Hid (bytesL (ks.drop i) (deep+1) bs=Q)∧Hid (PInv W0 bs vs v7 v8 wx))
     case atStart=>exact⟨0,[],[],_,_,rfl,rfl,rfl,by omega,by omega,rfl,by simp,HQ,hd_ (PInv.start W0)⟩
     case round=>
      obtain⟨i,bs,vs,v7,v8,rfl,rfl,rfl,hi,hgk,hbl,hfl,hq,hinv⟩:=hrel
      have hbel:=hinv.out.bel
      obtain⟨k0,k1,k2⟩:=HBX.out _ hbel
      have hbW:Below w.heap.size w wr:=HBW.out.trans (hbel.mono HBW.out.size)
      by_cases hlt:i<lk
      ·have hltz:(i:Int)< (lk:Int):=by omega
       obtain⟨gk',rfl⟩: ∃g',gk=g'+1:=⟨gk - 1,by omega⟩
       have hix:i<ks.length:=by rw[HLK.out];exact hlt
       obtain⟨g,off,rfl,hg,hBg,hks⟩:=HK3.out (by omega)
       obtain⟨d0,d1,d2,p0,p1,p2,hd⟩:=(KidsC.below hbW hg hBg ks off hks).at i hix
       clear hks
       have ih:=HK.out ks[i] (List.getElem_mem hix) B (.agg #[d0,d1,d2]) (deep+1) wr (by omega) ⟨_,_,_,rfl,hd⟩ (HT.out _ hbel)
       rw[Int.natCast_add,show((1:Nat):Int)=1 from rfl] at ih
       have hst:=bytes_drop (o:=deep+1) hix bs
       have hne:=errW_ne (szN ks[i]) ks[i] (deep+1)
       have hlen: ∀b,writeF ks[i] (deep+1)=.ok b→b.length≤65539∧0<b.length:=fun b h=>⟨writeF_len h,writeF_pos h⟩
       obtain⟨r,hr⟩:=nm_ (writeF ks[i] (deep+1))
       rw[hr] at ih hst hlen
       have hne2: ∀e,r=.no e→e≠0:=fun e h=>hne e (lr_ _) (hr.trans h)
       have hq2:=hq.out
       rw[hst] at hq2
       have IH:=hd_ ih
       have Q2:=hd_ hq2
       have HNE:=hd_ hne2
       have HLEN:=hd_ hlen
       have hwd:IntKind.i64.wrap ((deep:Int)+1)=(deep:Int)+1:=IntWalk.i64_in _ (by omega)
       clear ih hq2 hne hne2 hlen hr hst hd hq
       go_wp2_with fail
       refine IH.out.mono ?_
       rintro e w2 ⟨hb2,hpost⟩
       have hbel2:=below_then hbel hb2 (lr_ _)
       have HINV2:=hd_ (hinv.out.below hb2)
       have hown7:=hinv.out.row
       have hown8:=hinv.out.own
       obtain⟨m0,m1,m2⟩:=HBX.out _ hbel2
       cases r with
       |no er=>
        obtain⟨Ae,ce,rfl⟩:=hpost
        have her:=HNE.out er rfl
        have herb:(er==0)=false:=by simpa using her
        have hQe:Q=(none,er):=Q2.out.symm
        have hE:RES=.no er:=by have:=HR.out;rw[hQe] at this;exact this
        have hend:=HBW.out.trans (hbel2.mono HBW.out.size)
        clear HR Q2 IH HINV2 hown7 hown8 hinv HBX HK HK3 HQ hQe
        subst hE
        go_wp2
        go_ret2
        exact pr_no hend
       |ok bb=>
        obtain⟨A2,c2,rfl,hy2,hc2,hf2⟩:=hpost
        obtain⟨hl2,hl3⟩:=HLEN.out bb rfl
        obtain⟨g2,off2,hA2e,hg2,_⟩:=hy2.2.2 hl3
        have hfar: ∀g off sp,A2=some ⟨g,off,sp⟩→some g≠v7.ownBlock∧some g≠v8.ownBlock∧g<w2.heap.size:=fun g off sp e=>by
         have h1:=hf2 g off sp e
         refine⟨fun k=>?_,fun k=>?_,?_⟩
         ·have:=(own_lt hown7 k.symm).2;omega
         ·have:=(own_lt hown8 k.symm).2;omega
         ·rw[hA2e] at e;cases e;exact hg2
        obtain⟨w3,hw3⟩:=nm_ (w2.alloc (.cells #[.slice A2 bb.length c2] 34))
        have hn3:Below w2.heap.size w2 w3:=by rw[←hw3];exact below_new _ _
        have hc3:w3.cell? ⟨w2.heap.size,0,none⟩=some (.slice A2 bb.length c2):=by rw[←hw3,World.cell?_alloc_mark];rfl
        have hb3:W0.heap.size≤w3.heap.size:=by have:=hbel2.size;have:=hn3.size;omega
        obtain⟨v7',w4,hrun7,o7,g7,b7⟩:=app_row w3 W0.heap.size v7 bs.length vs (own_below HINV2.out.row hn3) w2.heap.size (.slice A2 bb.length c2) hc3 rfl (by omega) hb3
        have o8:=HINV2.out.own8 hn3 g7
        have hy4:Bys w4 A2 bb.length bb:=(hy2.below hn3).kept g7 (fun g off e=>(hfar g off none e).1)
        obtain⟨v8',w5,hrun8,o8',g8,b8⟩:=app_many w4 W0.heap.size v8 bs.flatten.length (vals bs.flatten) o8 A2 bb.length c2 bb hy4 (by omega) (by have:=g7.size;omega)
        have hinv':=HINV2.out.step hy2 hc2 hfar hw3.symm o7 g7 b7 o8' g8 b8
        have HI:=hd_ hinv'
        have Q3:Hid (bytesL (ks.drop (i+1)) (deep+1) (bs++[bb])=Q):=hd_ Q2.out
        have hfl':(bs++[bb]).flatten.length≤(i+1)*65539:=by
         have e:(bs++[bb]).flatten=bs.flatten++bb:=by simp
         rw[e,List.length_append];omega
        have hbl':(bs++[bb]).length=i+1:=by simp;omega
        clear hinv' o7 o8 o8' g7 g8 b7 b8 hy4 hy2 hc3 hfar Q2 IH HINV2 hown7 hown8 hinv hA2e hbel hbW hbel2 hb2 p0 p1 p2 k0 k1 k2 m0 m1 m2 hfl hbl hn3
        go_upto_region 23 with (fail)
        go_upto_region 24 with (at_builtin;refine wpl_append rfl (.tmp 68) (.tmp 70) 121 rfl _ _ _ rfl rfl hrun7 ?_)
        go_wp2_with (at_builtin;refine wpl_append rfl (.tmp 72) (.tmp 73) 34 rfl _ _ _ rfl rfl hrun8 ?_)
        go_roundg gk'
        case measure=>omega
        case rel=>exact⟨i+1,_,_,_,_,rfl,rfl,by go_num,by omega,by omega,hbl',hfl',Q3,HI⟩
      ·have hltz: ¬(i:Int)< (lk:Int):=by omega
       have hQe:Q=(some bs,0):=by
        rw[←hq.out,List.drop_eq_nil_of_le (by have:=HLK.out;omega)]
        unfold bytesL;rfl
       have hR:=HR.out
       rw[hQe] at hR
       simp only at hR
       obtain⟨L,cl,hv7,hLc,hLm,hbss⟩:=hinv.out.reads
       have hris:=rising_any L bs.length cl bs wr hbss hLc hLm
       obtain⟨A8,c8,hv8,hA8c,hA8m,_⟩:=own_shape hinv.out.own
       have hby8:Bys wr A8 bs.flatten.length bs.flatten:=Bys.own (by rw[←hv8];exact hinv.out.own) hinv.out.fit
       have hpt:=fun W (hW:Below wr.heap.size wr W)=>refPut_all t A8 bs.flatten.length c8 bs.flatten W ht (hby8.below hW)
       subst hv7 hv8
       have HPT:=hd_ hpt
       obtain⟨fl,hfl2⟩:=nm_ (bs.flatten)
       rw[hfl2] at hR HPT
       rw[hfl2]
       obtain⟨rs,hrs⟩:=nm_ (risingB bs)
       rw[hrs] at hR hris
       obtain⟨nb,hnb⟩:=nm_ (bs.length)
       rw[hnb] at hris
       rw[hnb]
       have HRIS:=hd_ hris
       have HR2:=hd_ hR
       clear hris hR hpt hby8 hbss hq hinv hQe HR HQ HK HK3 hfl2 hrs hnb hbl hfl hLc hLm hA8c hA8m
       by_cases h49:t=49
       ·subst h49
        go_wp2_with fail
        refine HRIS.out.mono ?_
        rintro e w6 ⟨rfl,hb6⟩
        have hbel6:=below_then hbel hb6 (lr_ _)
        obtain⟨m0,m1,m2⟩:=HBX.out _ hbel6
        have hend6:=HBW.out.trans (hbel6.mono HBW.out.size)
        cases rs with
        |false=>
         have hE:RES=.no 42:=HR2.out.trans (if_pos ⟨by first |rfl |trivial,by first |rfl |trivial⟩)
         clear HR2 HPT HRIS HBX
         subst hE
         go_wp2
         go_ret2
         exact pr_no hend6
        |true=>
         have hE:RES=putW 49 fl:=HR2.out.trans (if_neg (fun h=>by cases h.2))
         have HE:=hd_ hE
         have HPT2:=hd_ (HPT.out _ hb6)
         clear HR2 HPT HRIS hE
         go_wp2_with fail
         refine HPT2.out.mono ?_
         rintro e w7 ⟨A7,c7,rfl,hy7,hc7,hf7,hb7⟩
         have hend7:=HBW.out.trans ((below_then hbel6 hb7 (lr_ _)).mono HBW.out.size)
         have hfin:DPost w RES (.returned (.tuple #[.slice A7 (putF 49 fl).1.length c7,.int .i64 (putF 49 fl).2])) w7:=put_post HE.out hend7 hy7 hc7 hf7 (Nat.le_trans HBW.out.size hbel6.size)
         have HF:=hd_ hfin
         obtain⟨xx,hxx⟩:=nm_ ((putF 49 fl).1.length)
         obtain⟨er,her⟩:=nm_ ((putF 49 fl).2)
         rw[hxx,her] at HF⊢
         clear hfin hend7 hy7 hc7 hf7 hb7 HPT2 hxx her
         go_wp2
         go_ret2
         exact HF.out
       ·have h49b:(t==49)=false:=by simpa using h49
        have hE:RES=putW t fl:=HR2.out.trans (if_neg (fun h=>h49 h.1))
        have HE:=hd_ hE
        have HPT2:=hd_ (HPT.out _ (br_ _ _))
        clear HR2 HPT HRIS hE
        go_wp2_with fail
        refine HPT2.out.mono ?_
        rintro e w7 ⟨A7,c7,rfl,hy7,hc7,hf7,hb7⟩
        have hend7:=HBW.out.trans ((below_then hbel hb7 (lr_ _)).mono HBW.out.size)
        have hfin:DPost w RES (.returned (.tuple #[.slice A7 (putF t fl).1.length c7,.int .i64 (putF t fl).2])) w7:=put_post HE.out hend7 hy7 hc7 hf7 (Nat.le_trans HBW.out.size hbel.size)
        have HF:=hd_ hfin
        obtain⟨xx,hxx⟩:=nm_ ((putF t fl).1.length)
        obtain⟨er,her⟩:=nm_ ((putF t fl).2)
        rw[hxx,her] at HF⊢
        clear hfin hend7 hy7 hc7 hf7 hb7 HPT2 hxx her
        go_wp2
        go_ret2
        exact HF.out
  ·have hE:=H1.out h32 htz
   have htb:(tg==0)=false:=by simpa using htz
   clear H0 H1 H2 H3 hbits
   subst hE
   go_enter Tryz.func33,Tryz.ntmps33
   go_wp2_with fail
   refine(HTG.out _).mono ?_
   rintro e w1 ⟨rfl,rfl⟩
   go_wp2
   go_ret2
   exact pr_no HBW.out
theorem prints_all: ∀(N:Nat) (n:Nd),szN n≤N→N≤20000→Prints n
 |0,.mk t b ks,h,_=>absurd h (by show¬szL ks+1≤0;omega)
 |N+1,.mk t b ks,h,hN=>printed_step t b ks (by have h2:szL ks+1≤N+1:=h;omega) (fun k hk=>prints_all N k (by have h1:=szL_mem hk;have h2:szL ks+1≤N+1:=h;omega) (by omega)) (fun _ A n c xs w hx hc hm=>refTime_any t A n c xs w hx hc hm)
mutual
def noT:Nd→Prop
 | .mk t _ ks=>(t≠23∧t≠24)∧noTL ks
def noTL:List Nd→Prop
 | []=>True
 |k::ks=>noT k∧noTL ks
end
theorem noTL_mem: ∀{ks:List Nd} {k:Nd},noTL ks→k∈ks→noT k
 |a::ks,k,h,hk=>by
  unfold noTL at h
  rcases List.mem_cons.1 hk with rfl |hk
  ·exact h.1
  ·exact noTL_mem h.2 hk
theorem noTL_of: ∀{ks:List Nd},(∀k∈ks,noT k)→noTL ks
 | [],_=>by unfold noTL;trivial
 |a::ks,h=>by unfold noTL;exact⟨h a (by simp),noTL_of fun k hk=>h k (List.mem_cons_of_mem _ hk)⟩
theorem prints_noT: ∀(N:Nat) (n:Nd),szN n≤N→N≤20000→noT n→Prints n
 |0,.mk t b ks,h,_,_=>absurd h (by show¬szL ks+1≤0;omega)
 |N+1,.mk t b ks,h,hN,hn=>by
  unfold noT at hn
  exact printed_step t b ks (by have h2:szL ks+1≤N+1:=h;omega) (fun k hk=>prints_noT N k (by have h1:=szL_mem hk;have h2:szL ks+1≤N+1:=h;omega) (by omega) (noTL_mem hn.2 hk)) (fun h=>absurd h (by rcases hn.1 with ⟨h1,h2⟩;intro hc;rcases hc with hc |hc;exact h1 hc;exact h2 hc))
theorem refPrintP_any (n:Nd)(hP:Prints n)(B:Nat→Prop)(v:Value)(w:World)(hv:NdV B w n v)(hT:Tabs w):
 Calls Tryz.prog 14 #[v] w (DPost w (writeF n 0)):=by
 obtain⟨c0,c1,c2,rfl,hnd⟩:=hv
 obtain⟨tk,Ak,lak,cak,Kk,lkk,ckk,ec0,ec1,ec2⟩:=hnd.shape
 subst ec0 ec1 ec2
 have hbw:=below_new w (.cells #[.int .u8 tk,.slice Ak lak cak,.slice Kk lkk ckk] 43)
 have hp:=hP B (.agg #[.int .u8 tk,.slice Ak lak cak,.slice Kk lkk ckk]) 0 (w.alloc (.cells #[.int .u8 tk,.slice Ak lak cak,.slice Kk lkk ckk] 43)) (by omega) ⟨_,_,_,rfl,NdC.below hbw _ _ _ _ hnd⟩ (hT.below hbw)
 obtain⟨R,hR⟩:=nm_ (writeF n 0)
 rw[hR] at hp⊢
 rw[show((0:Nat):Int)=0 from rfl] at hp
 have HP:=hd_ hp
 clear hp hR hnd
 go_enter Tryz.func14,Tryz.ntmps14
 go_wp2_with fail
 refine HP.out.mono ?_
 rintro e w2 ⟨hb2,hpost⟩
 have hend:=below_then hbw hb2 (by simp)
 clear HP
 cases R with
 |no er=>
  obtain⟨Ae,ce,rfl⟩:=hpost
  clear hb2 hbw
  go_wp2
  go_ret2
  exact⟨hend,Ae,ce,rfl⟩
 |ok b=>
  obtain⟨A,c,rfl,h1,h2,h3⟩:=hpost
  have hz:=hbw.size
  have HF:Hid (Bys w2 A b.length b∧(b.length≤c∧c≤maxLen)∧∀g off sp,A=some ⟨g,off,sp⟩→w.heap.size≤g):=hd_ ⟨h1,h2,fun g off sp e=>Nat.le_trans hz (h3 g off sp e)⟩
  clear h1 h2 h3 hb2 hbw hz
  go_wp2
  go_ret2
  exact⟨hend,A,c,rfl,HF.out⟩
theorem refPrint_any (n:Nd)(hsz:szN n≤20000)(B:Nat→Prop)(v:Value)(w:World)(hv:NdV B w n v)(hT:Tabs w):
 Calls Tryz.prog 14 #[v] w (DPost w (writeF n 0)):=refPrintP_any n (prints_all _ n (lr_ _) hsz) B v w hv hT
theorem refPrintN_any (n:Nd)(hsz:szN n≤20000)(hn:noT n)(B:Nat→Prop)(v:Value)(w:World)(hv:NdV B w n v)(hT:Tabs w):
 Calls Tryz.prog 14 #[v] w (DPost w (writeF n 0)):=refPrintP_any n (prints_noT _ n (lr_ _) hsz hn) B v w hv hT
end Go.Proofs.YtkjkhoglkpepiaaGreatDoor.ndc
