/- Names held against one another: the program's Same and Under, the document's Same, Under and Alike. Names held against one another: the program's Same and Under. -/
import Derived.Test.YtclmaglkekkigaaYc
import Derived.Test.YtclmaglkekkigaaXe
import Derived.Lib.QuietBelow
import Derived.BigQuiet
namespace Go.Proofs.Ytclmaglkekkigaa.nmc
open Go.RowKit Go.Proofs.Ytclmaglkekkigaa.tlvc Go.Proofs.Ytclmaglkekkigaa.ndc Go.Proofs.Ytclmaglkekkigaa.txc Go.Proofs.Ytclmaglkekkigaa.txm
set_option linter.unusedVariables false
set_option linter.unusedSimpArgs false
def eqA (a b:At):Bool:=decide (a.oid=b.oid) && decide (prepF a.text=prepF b.text)
theorem drewN_add (w:World)(q r:Nat):(w.drewN q).drewN r=w.drewN (q+r):=by
  unfold World.drewN;simp[Nat.add_assoc]
theorem same_step {xs ys:List Int}{k:Nat}(h:xs.take k=ys.take k)(hx:k<xs.length)(hy:k<ys.length)(he:xs.getD k 0=ys.getD k 0):xs.take (k+1)=ys.take (k+1):=by
  rw[List.take_succ_eq_append_getElem hx,List.take_succ_eq_append_getElem hy,h]
  simp only[List.getD_eq_getElem?_getD,List.getElem?_eq_getElem hx,List.getElem?_eq_getElem hy,Option.getD_some] at he
  rw[he]
def SameB (w:World)(b:Bool)(e:Ending)(w':World):Prop:=e=.returned (.bool b)∧∃q,w'=w.drewN q
theorem SameB.below {w:World}{b:Bool}{e:Ending}{w':World}(h:SameB w b e w'):e=.returned (.bool b)∧Below w.heap.size w w':=by
  obtain⟨h,q,rfl⟩:=h
  exact⟨h,rfl,rfl,rfl,Nat.le_refl _,fun _ _=>rfl⟩
set_option maxHeartbeats 400000 in
theorem isame_any (A B:Option Addr)(n c m d:Nat)(xs ys:List Int)(w:World)(hx:Ins w A n xs)(hy:Ins w B m ys)(hm:n≤maxLen):
    Calls Try.prog 28 #[.slice A n c,.slice B m d] w (SameB w (decide (xs=ys))):=by
  unfold maxLen at hm
  have hlx:=hx.len
  have hly:=hy.len
  by_cases hnm:n=m
  · subst hnm
    have HX:=Lib.hid hlx
    have HY:=Lib.hid hly
    have hcx:=Lib.hid hx.2.2
    have hcy:=Lib.hid hy.2.2
    obtain⟨R,hR⟩: ∃R,decide (xs=ys)=R:=⟨_,rfl⟩
    have HR:=Lib.hid hR
    rw[hR]
    clear hlx hly hR
    go_enter Try.func28,Try.ntmps28
    go_wp2
    go_loopw [5] (fun x wr=>∃k:Nat,x=.int .i64 k∧k≤n∧xs.take k=ys.take k∧∃q,wr=w.drewN q) (fun x _=>n - (intOf x).toNat)
    case atStart=>exact⟨0,rfl,by omega,rfl,0,rfl⟩
    case round=>
      obtain⟨k,rfl,hk,he,q,rfl⟩:=hrel
      by_cases hlt:k<n
      · obtain⟨b,off,rfl,_,hcl⟩:=hcx.out (by omega)
        obtain⟨b2,off2,rfl,_,hcl2⟩:=hcy.out (by omega)
        have hc1: ∀q,(w.drewN q).cell? ⟨b,off+k,none⟩=some (.int .i64 (xs.getD k 0)):=fun q=>hcl k hlt
        have hc2: ∀q,(w.drewN q).cell? ⟨b2,off2+k,none⟩=some (.int .i64 (ys.getD k 0)):=fun q=>hcl2 k hlt
        have hstep:=same_step he (by rw[HX.out];exact hlt) (by rw[HY.out];exact hlt)
        obtain⟨x,hxx⟩: ∃x,xs.getD k 0=x:=⟨_,rfl⟩
        obtain⟨y,hyy⟩: ∃y,ys.getD k 0=y:=⟨_,rfl⟩
        have HE:=Lib.hid he
        have HXX:=Lib.hid hxx
        have HYY:=Lib.hid hyy
        rw[hxx] at hc1
        rw[hyy] at hc2
        rw[hxx,hyy] at hstep
        have HS:=Lib.hid hstep
        have hk0:(k:Int)<n:=by omega
        have hk1:(0:Int)≤k:=by omega
        clear hcl hcl2 he hxx hyy hstep
        by_cases hxy:x=y
        · subst hxy
          have hS2:=HS.out rfl
          have HS2:=Lib.hid hS2
          clear HS hS2
          go_wp2
          go_quiet (fail)
          go_wp2
          go_roundw
          case rel=>exact⟨k+1,by go_num,by omega,HS2.out,_,rfl⟩
          case measure=>simp[intOf];omega
        · have hne:(x !=y)=true:=by simpa using hxy
          have e:R=false:=by
            rw[←HR.out]
            simp only[decide_eq_false_iff_not]
            intro h
            rw[h] at HXX
            exact hxy (HXX.out.symm.trans HYY.out)
          subst e
          clear hxy
          go_wp2
          go_quiet (fail)
          go_wp2
          go_ret
          exact⟨rfl,_,drewN_add _ _ _⟩
      · have e:R=true:=by
          rw[←HR.out]
          simp only[decide_eq_true_eq]
          rwa[List.take_of_length_le (by rw[HX.out];omega),List.take_of_length_le (by rw[HY.out];omega)] at he
        subst e
        clear he
        go_wp2
        go_ret
        exact⟨rfl,_,rfl⟩
  · have e:decide (xs=ys)=false:=by
      simp only[decide_eq_false_iff_not]
      intro h
      rw[h] at hlx
      exact hnm (hlx.symm.trans hly)
    have hne:((n:Int) !=m)=true:=by simp only[bne_iff_ne,ne_eq];omega
    have hne2:(n !=m)=true:=by simpa using hnm
    rw[e]
    clear e hlx hly hnm
    go_enter Try.func28,Try.ntmps28
    go_wp2
    go_ret
    exact⟨rfl,0,rfl⟩

set_option maxHeartbeats 400000 in
theorem ieq_any (A B:Option Addr)(n c m d:Nat)(xs ys:List Int)(w:World)(hx:Ins w A n xs)(hy:Ins w B m ys)(hm:n≤maxLen):
    Calls Try.prog 32 #[.slice A n c,.slice B m d] w (SameB w (decide (xs=ys))):=by
  unfold maxLen at hm
  have hlx:=hx.len
  have hly:=hy.len
  by_cases hnm:n=m
  · subst hnm
    have HX:=Lib.hid hlx
    have HY:=Lib.hid hly
    have hcx:=Lib.hid hx.2.2
    have hcy:=Lib.hid hy.2.2
    obtain⟨R,hR⟩: ∃R,decide (xs=ys)=R:=⟨_,rfl⟩
    have HR:=Lib.hid hR
    rw[hR]
    clear hlx hly hR
    go_enter Try.func32,Try.ntmps32
    go_wp2
    go_loopw [13] (fun x wr=>∃k:Nat,x=.int .i64 k∧k≤n∧xs.take k=ys.take k∧∃q,wr=w.drewN q) (fun x _=>n - (intOf x).toNat)
    case atStart=>exact⟨0,rfl,by omega,rfl,0,rfl⟩
    case round=>
      obtain⟨k,rfl,hk,he,q,rfl⟩:=hrel
      by_cases hlt:k<n
      · obtain⟨b,off,rfl,_,hcl⟩:=hcx.out (by omega)
        obtain⟨b2,off2,rfl,_,hcl2⟩:=hcy.out (by omega)
        have hc1: ∀q,(w.drewN q).cell? ⟨b,off+k,none⟩=some (.int .i64 (xs.getD k 0)):=fun q=>hcl k hlt
        have hc2: ∀q,(w.drewN q).cell? ⟨b2,off2+k,none⟩=some (.int .i64 (ys.getD k 0)):=fun q=>hcl2 k hlt
        have hstep:=same_step he (by rw[HX.out];exact hlt) (by rw[HY.out];exact hlt)
        obtain⟨x,hxx⟩: ∃x,xs.getD k 0=x:=⟨_,rfl⟩
        obtain⟨y,hyy⟩: ∃y,ys.getD k 0=y:=⟨_,rfl⟩
        have HE:=Lib.hid he
        have HXX:=Lib.hid hxx
        have HYY:=Lib.hid hyy
        rw[hxx] at hc1
        rw[hyy] at hc2
        rw[hxx,hyy] at hstep
        have HS:=Lib.hid hstep
        have hk0:(k:Int)<n:=by omega
        have hk1:(0:Int)≤k:=by omega
        clear hcl hcl2 he hxx hyy hstep
        by_cases hxy:x=y
        · subst hxy
          have hS2:=HS.out rfl
          have HS2:=Lib.hid hS2
          clear HS hS2
          go_wp2
          go_quiet (fail)
          go_wp2
          go_roundw
          case rel=>exact⟨k+1,by go_num,by omega,HS2.out,_,rfl⟩
          case measure=>simp[intOf];omega
        · have hne:(x !=y)=true:=by simpa using hxy
          have e:R=false:=by
            rw[←HR.out]
            simp only[decide_eq_false_iff_not]
            intro h
            rw[h] at HXX
            exact hxy (HXX.out.symm.trans HYY.out)
          subst e
          clear hxy
          go_wp2
          go_quiet (fail)
          go_wp2
          go_ret
          exact⟨rfl,_,drewN_add _ _ _⟩
      · have e:R=true:=by
          rw[←HR.out]
          simp only[decide_eq_true_eq]
          rwa[List.take_of_length_le (by rw[HX.out];omega),List.take_of_length_le (by rw[HY.out];omega)] at he
        subst e
        clear he
        go_wp2
        go_ret
        exact⟨rfl,_,rfl⟩
  · have e:decide (xs=ys)=false:=by
      simp only[decide_eq_false_iff_not]
      intro h
      rw[h] at hlx
      exact hnm (hlx.symm.trans hly)
    have hne:((n:Int) !=m)=true:=by simp only[bne_iff_ne,ne_eq];omega
    have hne2:(n !=m)=true:=by simpa using hnm
    rw[e]
    clear e hlx hly hnm
    go_enter Try.func32,Try.ntmps32
    go_wp2
    go_ret
    exact⟨rfl,0,rfl⟩


theorem ieq_b (A B:Option Addr)(n c m d:Nat)(xs ys:List Int)(w:World)(hx:Ins w A n xs)(hy:Ins w B m ys)(hm:n≤maxLen):Calls Try.prog 32 #[.slice A n c,.slice B m d] w fun e w'=>e=.returned (.bool (decide (xs=ys)))∧Below w.heap.size w w':=
  (ieq_any A B n c m d xs ys w hx hy hm).mono fun e w' h=>h.below
theorem isame_b (A B:Option Addr)(n c m d:Nat)(xs ys:List Int)(w:World)(hx:Ins w A n xs)(hy:Ins w B m ys)(hm:n≤maxLen):Calls Try.prog 28 #[.slice A n c,.slice B m d] w fun e w'=>e=.returned (.bool (decide (xs=ys)))∧Below w.heap.size w w':=
  (isame_any A B n c m d xs ys w hx hy hm).mono fun e w' h=>h.below
/-- A prepared text. -/
def prS (s:ByteArray):ByteArray:=⟨(prepF s).toArray⟩
theorem prS_eq {s t:ByteArray}:prS s=prS t↔prepF s=prepF t:=by
  unfold prS
  constructor
  · intro h
    have:=congrArg ByteArray.data h
    simpa using this
  · intro h;rw[h]
theorem prep_b (s:ByteArray)(w:World)(hs:s.size≤8796093022208):Calls Try.prog 33 #[.string s] w fun e w'=>e=.returned (.string (prS s))∧Below w.heap.size w w':=prep_any s w hs
theorem refPrep_b (s:ByteArray)(w:World)(hs:s.size≤8796093022208):Calls Try.prog 29 #[.string s] w fun e w'=>e=.returned (.string (prS s))∧Below w.heap.size w w':=refPrep_any s w hs
theorem str_ne {P Q:ByteArray}(h: ¬P=Q): ¬P.toList=Q.toList:=fun e=>h (by
  apply ByteArray.ext
  apply Array.ext'
  rw[ByteArray.toList_eq,ByteArray.toList_eq] at e
  exact e)
theorem eqA_of {a b:At}:eqA a b=(decide (a.oid=b.oid) && decide (prS a.text=prS b.text)):=by
  unfold eqA
  congr 1
  exact decide_eq_decide.2 prS_eq.symm
set_option maxRecDepth 100000 in
set_option maxHeartbeats 4000000 in
theorem sameAttr_any (a b:At)(S T:Nat→Prop)(c0 c1 d0 d1:Value)(w:World)(ha:atE.hold S w a [c0,c1])(hb:atE.hold T w b [d0,d1])(za:a.text.size≤8796093022208)(zb:b.text.size≤8796093022208):
    Calls Try.prog 31 #[.agg #[c0,c1],.agg #[d0,d1]] w fun e w'=>e=.returned (.bool (eqA a b))∧Below w.heap.size w w':=by
  obtain⟨_,_,e,A,la,ca,rfl,rfl,hx1,hx2,hx3,hx4,hx5⟩:=ha
  simp only[List.cons.injEq,and_true] at e
  obtain⟨rfl,rfl⟩:=e
  obtain⟨_,_,e,A',la',ca',rfl,rfl,hy1,hy2,hy3,hy4,hy5⟩:=hb
  simp only[List.cons.injEq,and_true] at e
  obtain⟨rfl,rfl⟩:=e
  rw[eqA_of]
  have hE:=fun W (hW:Below w.heap.size w W)=>ieq_b A A' la ca la' ca' a.oid b.oid W (hx3.below hW) (hy3.below hW) (Nat.le_trans hx1 hx2)
  have hP:=fun W=>prep_b a.text W za
  have hQ:=fun W=>prep_b b.text W zb
  obtain⟨o,ho⟩: ∃x,decide (a.oid=b.oid)=x:=⟨_,rfl⟩
  obtain⟨P,hP0⟩: ∃x,prS a.text=x:=⟨_,rfl⟩
  obtain⟨Q,hQ0⟩: ∃x,prS b.text=x:=⟨_,rfl⟩
  rw[ho,hP0,hQ0]
  rw[ho] at hE
  rw[hP0] at hP
  rw[hQ0] at hQ
  obtain⟨s,hs⟩: ∃x,a.text=x:=⟨_,rfl⟩
  obtain⟨t,ht⟩: ∃x,b.text=x:=⟨_,rfl⟩
  rw[hs] at hP⊢
  rw[ht] at hQ⊢
  obtain⟨W0,hW0⟩: ∃x,(w.alloc (.cells #[.slice A la ca,.string s] 35)).alloc (.cells #[.slice A' la' ca',.string t] 35)=x:=⟨_,rfl⟩
  have hb0:Below w.heap.size w W0:=by rw[←hW0];exact(below_new _ _).alloc (by simp) _
  have p0:W0.heap[w.heap.size+1]? =some (.cells #[.slice A' la' ca',.string t] 35):=by rw[←hW0];exact heap_is (by simp)
  have q0:W0.heap[w.heap.size]? =some (.cells #[.slice A la ca,.string s] 35):=by rw[←hW0,heap_old_ _ _ (by simp)];exact heap_new_ _ _
  have x0:W0.cell? ⟨w.heap.size,0,none⟩=some (.slice A la ca):=(Lib.cell_of_heap q0 _).trans rfl
  have x1:W0.cell? ⟨w.heap.size,1,none⟩=some (.string s):=(Lib.cell_of_heap q0 _).trans rfl
  have y0:W0.cell? ⟨w.heap.size+1,0,none⟩=some (.slice A' la' ca'):=(Lib.cell_of_heap p0 _).trans rfl
  have y1:W0.cell? ⟨w.heap.size+1,1,none⟩=some (.string t):=(Lib.cell_of_heap p0 _).trans rfl
  have g0:=fun(d:Nat) (os:Array Obj)=>cell_on (below_regrown W0 d os) x0
  have g1:=fun(d:Nat) (os:Array Obj)=>cell_on (below_regrown W0 d os) x1
  have g2:=fun(d:Nat) (os:Array Obj)=>cell_on (below_regrown W0 d os) y0
  have g3:=fun(d:Nat) (os:Array Obj)=>cell_on (below_regrown W0 d os) y1
  have HE:=Lib.hid (fun(d:Nat) (os:Array Obj)=>hE _ (below_then hb0 (below_regrown W0 d os) (Nat.le_refl _)))
  have HP:=Lib.hid hP
  have HQ:=Lib.hid hQ
  have HB:=Lib.hid hb0
  clear hE hP hQ hb0 p0 q0 x0 x1 y0 y1 hx1 hx2 hx3 hx4 hx5 hy1 hy2 hy3 hy4 hy5 ho hP0 hQ0 hs ht za zb
  by_cases hpq:P=Q
  · subst hpq
    cases o
    all_goals
      go_enter Try.func31,Try.ntmps31
      go_wp2_with fail
      try rw[hW0]
      (try clear hW0)
      try dsimp only
      refine wp_region_quiet_below (by kernel_rfl) (by kernel_rfl) ?_
      repeat (go_big_quiet_step ((first | (go_at_call 32;refine Calls.regrown_of (HE.out _ _)) | (go_at_call_of 33 s;refine Calls.regrown_of (HP.out _)) | (go_at_call_of 33 t;refine Calls.regrown_of (HQ.out _)))))
      refine wpQuiet_nil ?_
      intro _ hw'
      obtain⟨⟨nq,osq⟩,hw''⟩:=hw'
      subst hw''
      go_wp2
      go_ret
      exact⟨by first |rfl |simp,below_then HB.out (below_regrown _ _ _) (Nat.le_refl _)⟩
  · have hz1:=str_ne hpq
    have hz2:(P.toList==Q.toList)=false:=by simpa using hz1
    rw[decide_eq_false hpq,Bool.and_false]
    cases o
    all_goals
      go_enter Try.func31,Try.ntmps31
      go_wp2_with fail
      try rw[hW0]
      (try clear hW0)
      try dsimp only
      refine wp_region_quiet_below (by kernel_rfl) (by kernel_rfl) ?_
      repeat (go_big_quiet_step ((first | (go_at_call 32;refine Calls.regrown_of (HE.out _ _)) | (go_at_call_of 33 s;refine Calls.regrown_of (HP.out _)) | (go_at_call_of 33 t;refine Calls.regrown_of (HQ.out _)))))
      refine wpQuiet_nil ?_
      intro _ hw'
      obtain⟨⟨nq,osq⟩,hw''⟩:=hw'
      subst hw''
      go_wp2
      go_ret
      exact⟨by first |rfl |simp[hz1],below_then HB.out (below_regrown _ _ _) (Nat.le_refl _)⟩
end Go.Proofs.Ytclmaglkekkigaa.nmc
namespace Go.Proofs.Ytclmaglkekkigaa.nmc
open Go.RowKit Go.Proofs.Ytclmaglkekkigaa.tlvc Go.Proofs.Ytclmaglkekkigaa.ndc Go.Proofs.Ytclmaglkekkigaa.txc Go.Proofs.Ytclmaglkekkigaa.txm
set_option linter.unusedVariables false
set_option linter.unusedSimpArgs false
/-- Alike, one by one. -/
def eqP {α:Type}(p:α→α→Bool):List α→List α→Bool
  | [],[]=>true
  |x::xs,y::ys=>p x y && eqP p xs ys
  |_,_=>false
section
variable {α:Type} {p:α→α→Bool}
theorem eqP_len: ∀{a b:List α},eqP p a b=true→a.length=b.length
  | [],[],_=>rfl
  | [],_::_,h=>by simp[eqP] at h
  |_::_,[],h=>by simp[eqP] at h
  |x::xs,y::ys,h=>by
   unfold eqP at h
   rw[Bool.and_eq_true] at h
   simp[eqP_len h.2]
theorem eqP_no {a b:List α}(h:a.length≠b.length):eqP p a b=false:=by
  cases e:eqP p a b
  · rfl
  · exact absurd (eqP_len e) h
theorem eqP_step {a b:List α}{i:Nat}{R:Bool}(h1:i<a.length)(h2:i<b.length)(h:eqP p (a.drop i) (b.drop i)=R):(p a[i] b[i]=false→R=false)∧(p a[i] b[i]=true→eqP p (a.drop (i+1)) (b.drop (i+1))=R):=by
  rw[List.drop_eq_getElem_cons h1,List.drop_eq_getElem_cons h2] at h
  unfold eqP at h
  constructor
  · intro e;rw[←h,e];rfl
  · intro e;rw[←h,e];rfl
theorem eqP_end {a b:List α}{i:Nat}{R:Bool}(h1: ¬i<a.length)(h2: ¬i<b.length)(h:eqP p (a.drop i) (b.drop i)=R):R=true:=by
  rw[←h,List.drop_eq_nil_of_le (by omega),List.drop_eq_nil_of_le (by omega)]
  rfl
theorem eqP_iff: ∀{a b:List α},eqP p a b=true↔a.length=b.length∧∀(i:Nat) (h1:i<a.length) (h2:i<b.length),p a[i] b[i]=true
  | [],[]=>by simp[eqP]
  | [],_::_=>by simp[eqP]
  |_::_,[]=>by simp[eqP]
  |x::us,y::vs=>by
   unfold eqP
   rw[Bool.and_eq_true,eqP_iff (a:=us) (b:=vs)]
   constructor
   · rintro⟨h0,hl,h⟩
     refine⟨by simp[hl],fun i h1 h2=>?_⟩
     cases i with
     |zero=>exact h0
     |succ i=>exact h i (by simpa using h1) (by simpa using h2)
   · rintro⟨hl,h⟩
     exact⟨h 0 (by simp) (by simp),by simpa using hl,fun i h1 h2=>h (i+1) (by simpa using h1) (by simpa using h2)⟩
end
/-- Two parts of names at one place, as cells. -/
theorem at_cells {B:Nat→Prop}{w wr:World}{A:Option Addr}{xs:List At}(hL:Lst atE B w A xs)(hb:Below w.heap.size w wr)(i:Nat)(hi:i<xs.length): ∃g off A0 l0 k0 s,A=some ⟨g,off,none⟩∧xs[i].text=s∧wr.cell? ⟨g,off+i*2,none⟩=some (.slice A0 l0 k0)∧wr.cell? ⟨g,off+i*2+1,none⟩=some (.string s)∧
    l0≤k0∧k0≤maxLen∧Ins wr A0 l0 xs[i].oid∧s.size≤maxLen∧atE.hold B wr xs[i] [.slice A0 l0 k0,.string s]:=by
  obtain⟨g,off,cs,rfl,hg,hcell,hold⟩:=(hL.below hb).at i hi
  have hh:=hold
  obtain⟨c0,c1,rfl,A0,l0,k0,rfl,rfl,hx1,hx2,hx3,hx4,hx5⟩:=hold
  have e0:=hcell 0 _ rfl
  have e1:=hcell 1 _ rfl
  rw[show atE.sz=2 from rfl] at e0 e1
  rw[Nat.add_zero] at e0
  exact⟨g,off,A0,l0,k0,_,rfl,rfl,e0,e1,hx1,hx2,hx3,hx5,hh⟩
set_option maxRecDepth 100000 in
set_option maxHeartbeats 8000000 in
theorem eqFuncA_any (B C:Nat→Prop)(A A':Option Addr)(n c m d:Nat)(xs ys:List At)(w:World)(hl:xs.length=n)(hl2:ys.length=m)(hL:Lst atE B w A xs)(hL2:Lst atE C w A' ys)(hc:n≤c)(hm:c≤maxLen)(hc2:m≤d)(hm2:d≤maxLen)
    (za: ∀a∈xs,a.text.size≤8796093022208) (zb: ∀a∈ys,a.text.size≤8796093022208):
    Calls Try.prog 30 #[.slice A n c,.slice A' m d,.func (.func 31) #[] #[]] w fun e w'=>e=.returned (.bool (eqP eqA xs ys))∧Below w.heap.size w w':=by
  have h9:c≤9223372036854775807:=by unfold maxLen at hm;omega
  have h92:d≤9223372036854775807:=by unfold maxLen at hm2;omega
  by_cases hnm:n=m
  · subst hnm
    obtain⟨R,hR⟩: ∃R,eqP eqA xs ys=R:=⟨_,rfl⟩
    rw[hR]
    have hent:=enters_of Try.func31 (by kernel_rfl) rfl
    have HR:=Lib.hid (show eqP eqA (xs.drop 0) (ys.drop 0)=R by rw[List.drop_zero,List.drop_zero];exact hR)
    have HL:=Lib.hid (And.intro hl (And.intro hl2 (And.intro hL hL2)))
    have HZ:=Lib.hid (And.intro za zb)
    clear hl hl2 hL hL2 za zb hR hm hm2
    go_enter Try.func30,Try.ntmps30
    go_wp2_with fail
    go_loopg [17] (n+1) (fun gk s17 wx=>∃(i:Nat),s17=.int .i64 i∧i≤n∧n - i<gk∧Hid (eqP eqA (xs.drop i) (ys.drop i)=R∧Below w.heap.size w wx))
    case atStart=>exact⟨0,rfl,by omega,by omega,Lib.hid ⟨HR.out,Below.refl _ _⟩⟩
    case round=>
      obtain⟨i,rfl,hi,hgk,HI⟩:=hrel
      clear HR
      by_cases hlt:i<n
      · have hltz:(i:Int)< (n:Int):=by omega
        obtain⟨gk',rfl⟩: ∃g',gk=g'+1:=⟨gk - 1,by omega⟩
        have HN:=Lib.hid (And.intro (show i+1≤n from hlt) (show n - (i+1)<gk' by omega))
        have hix:i<xs.length:=by rw[HL.out.1];exact hlt
        have hiy:i<ys.length:=by rw[HL.out.2.1];exact hlt
        obtain⟨g,off,A0,l0,k0,s,rfl,hs,e0,e1,hx1,hx2,hx3,hx5,hxh⟩:=at_cells HL.out.2.2.1 HI.out.2 i hix
        obtain⟨g',off',A1,l1,k1,t,rfl,ht,e0',e1',hy1,hy2,hy3,hy5,hyh⟩:=at_cells HL.out.2.2.2 HI.out.2 i hiy
        have hbx:Below wr.heap.size wr ((wr.alloc (.cells #[.slice A0 l0 k0,.string s] 35)).alloc (.cells #[.slice A1 l1 k1,.string t] 35)):=(below_new _ _).alloc (by simp) _
        have hcall:=sameAttr_any xs[i] ys[i] B C _ _ _ _ _ (atE.stays ⟨hbx.size,fun p _ hp=>hbx.cell hp⟩ hxh) (atE.stays ⟨hbx.size,fun p _ hp=>hbx.cell hp⟩ hyh) (HZ.out.1 _ (List.getElem_mem hix)) (HZ.out.2 _ (List.getElem_mem hiy))
        have hbx1:=below_new wr (.cells #[.slice A0 l0 k0,.string s] 35)
        have u0:=cell_on hbx1 e0'
        have u1:=cell_on hbx1 e1'
        have hst:=eqP_step hix hiy HI.out.1
        obtain⟨r,hr⟩: ∃x,eqA xs[i] ys[i]=x:=⟨_,rfl⟩
        rw[hr] at hcall hst
        have HC:=Lib.hid hcall
        have HS:=Lib.hid hst
        have HB:=Lib.hid (below_then HI.out.2 hbx (Nat.le_refl _))
        clear hcall hst hr hbx hbx1 hx1 hx2 hx3 hx5 hxh hy1 hy2 hy3 hy5 hyh hs ht hgk
        go_wp2_with fail
        refine HC.out.mono ?_
        rintro e w3 ⟨rfl,hb3⟩
        have hfin:=Lib.hid (below_then HB.out hb3 (Nat.le_refl _))
        clear hb3 HC HB e0 e1 e0' e1' u0 u1
        cases r with
        |false=>
         have hR:=HS.out.1 rfl
         subst hR
         go_wp2
         go_ret
         exact⟨rfl,hfin.out⟩
        |true=>
         have HS2:=Lib.hid (HS.out.2 rfl)
         go_wp2
         go_roundg gk'
         case measure=>omega
         case rel=>exact⟨i+1,by go_num,HN.out.1,HN.out.2,Lib.hid ⟨HS2.out,hfin.out⟩⟩
      · obtain rfl:n=i:=by omega
        have hltz: ¬(n:Int)< (n:Int):=by omega
        have hR:=eqP_end (by rw[HL.out.1];omega) (by rw[HL.out.2.1];omega) HI.out.1
        subst hR
        clear hgk
        go_wp2
        go_ret
        exact⟨rfl,HI.out.2⟩
  · rw[eqP_no (by omega)]
    have hne:((n:Int) !=m)=true:=by simp only[bne_iff_ne,ne_eq];omega
    have hne2:(n !=m)=true:=by simpa using hnm
    clear hL hL2 hl hl2 hnm
    go_enter Try.func30,Try.ntmps30
    go_wp2
    go_ret
    exact⟨rfl,Below.refl _ _⟩
set_option maxRecDepth 100000 in
set_option maxHeartbeats 4000000 in
theorem same_any (B C:Nat→Prop)(A A':Option Addr)(n c m d:Nat)(xs ys:List At)(w:World)(hl:xs.length=n)(hl2:ys.length=m)(hL:Lst atE B w A xs)(hL2:Lst atE C w A' ys)(hc:n≤c)(hm:c≤maxLen)(hc2:m≤d)(hm2:d≤maxLen)
    (za: ∀a∈xs,a.text.size≤8796093022208) (zb: ∀a∈ys,a.text.size≤8796093022208):
    Calls Try.prog 25 #[.slice A n c,.slice A' m d] w fun e w'=>e=.returned (.bool (eqP eqA xs ys))∧Below w.heap.size w w':=by
  have hcall:=eqFuncA_any B C A A' n c m d xs ys w hl hl2 hL hL2 hc hm hc2 hm2 za zb
  have HC:=Lib.hid hcall
  clear hcall hl hl2 hL hL2 hc hm hc2 hm2 za zb
  go_enter Try.func25,Try.ntmps25
  go_wp2_with fail
  refine HC.out.mono ?_
  rintro e w3 ⟨rfl,hb3⟩
  have hfin:=Lib.hid hb3
  clear hb3 HC
  go_wp2
  go_ret
  exact⟨rfl,hfin.out⟩
/-- Does a name begin with another one? -/
def unP (a b:List At):Bool:=decide (b.length≤a.length) && eqP eqA (a.take b.length) b
set_option maxRecDepth 100000 in
set_option maxHeartbeats 4000000 in
theorem under_any (B C:Nat→Prop)(A A':Option Addr)(n c m d:Nat)(xs ys:List At)(w:World)(hl:xs.length=n)(hl2:ys.length=m)(hL:Lst atE B w A xs)(hL2:Lst atE C w A' ys)(hc:n≤c)(hm:c≤maxLen)(hc2:m≤d)(hm2:d≤maxLen)
    (za: ∀a∈xs,a.text.size≤8796093022208) (zb: ∀a∈ys,a.text.size≤8796093022208):
    Calls Try.prog 18 #[.slice A n c,.slice A' m d] w fun e w'=>e=.returned (.bool (unP xs ys))∧Below w.heap.size w w':=by
  have h9:c≤9223372036854775807:=by unfold maxLen at hm;omega
  by_cases hmn:m≤n
  · have hcall:=same_any B C A A' m c m d (xs.take m) ys w (by rw[List.length_take];omega) hl2 (hL.take m) hL2 (by omega) hm hc2 hm2 (fun a ha=>za a (List.mem_of_mem_take ha)) zb
    have e:unP xs ys=eqP eqA (xs.take m) ys:=by unfold unP;rw[hl,hl2,decide_eq_true hmn,Bool.true_and]
    rw[e]
    obtain⟨R,hR⟩: ∃R,eqP eqA (xs.take m) ys=R:=⟨_,rfl⟩
    rw[hR] at hcall⊢
    have hz1:(m:Int)≤(n:Int):=by omega
    have HC:=Lib.hid hcall
    clear hcall hl hl2 hL hL2 hm hc2 hm2 za zb e hR
    go_enter Try.func18,Try.ntmps18
    go_wp2_with fail
    refine HC.out.mono ?_
    rintro e w3 ⟨rfl,hb3⟩
    have hfin:=Lib.hid hb3
    clear hb3 HC
    cases R
    all_goals
      go_wp2
      go_ret
      exact⟨rfl,hfin.out⟩
  · have e:unP xs ys=false:=by unfold unP;rw[hl,hl2,decide_eq_false hmn,Bool.false_and]
    rw[e]
    have hz1: ¬(m:Int)≤(n:Int):=by omega
    clear hl hl2 hL hL2 hm hc2 hm2 za zb e hmn
    go_enter Try.func18,Try.ntmps18
    go_wp2
    go_ret
    exact⟨rfl,Below.refl _ _⟩
end Go.Proofs.Ytclmaglkekkigaa.nmc
