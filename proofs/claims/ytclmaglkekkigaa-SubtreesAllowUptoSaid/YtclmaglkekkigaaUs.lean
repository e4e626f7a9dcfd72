/- How an argument of structs is opened where what comes in is small. -/
import Derived.Test.YtclmaglkekkigaaYa
import Derived.Deep.RegionHeld3
namespace Go.Proofs.Ytclmaglkekkigaa.dtc
open Go.ChangeShapes Go.WideShapes Go.ChangeAt Go.RowKit Go.Proofs.Ytclmaglkekkigaa.tlvc Go.Proofs.Ytclmaglkekkigaa.ndc
set_option linter.unusedVariables false
mutual
/-- No text and no list is longer than the second form's bound. -/
def smallDt:Dt→Prop
  | .int _ _=>True
  | .bool _=>True
  | .str s=>s.size≤1048576
  | .bys _=>True
  | .agg l=>smallDts l
  | .row _ l=>l.length≤1048576∧smallDts l
def smallDts:List Dt→Prop
  | []=>True
  |d::ds=>smallDt d∧smallDts ds
end
theorem smallDts_all: ∀{l:List Dt},smallDts l↔ ∀d∈l,smallDt d
  | []=>by unfold smallDts;simp
  |d::ds=>by unfold smallDts;rw[smallDts_all];simp
theorem bulk_one {H:Type}(d:DataW H):1≤Rows.uptoBulk d:=by
  unfold Rows.uptoBulk
  split<;>omega
theorem bulk_len {H:Type}: ∀l:List (DataW H),l.length≤Rows.uptoBulkAll l
  | []=>Nat.zero_le _
  |d::r=>by
   have h1:=bulk_one d
   have h2:=bulk_len r
   unfold Rows.uptoBulkAll
   simp only[List.length_cons]
   omega
section
variable {H:Type} {enc:TypeId × Value→H} {P:Program} {W:World} {held:Bool}
mutual
theorem sm_of: ∀(s:Sh) (T:TypeId),Fits P s T→∀(fuel:Nat) (cs:List Value) (x:DataW H × List MemPlace),DataW.trod enc P W 0 (fun _=>true) held fuel T cs=some x→
    cs.length=s.sz∧∃d,IsSh s d∧Lies (fun _=>True) W d cs∧(Rows.uptoBulk x.1≤1048576→smallDt d)
  | .int k,T,hF,fuel,cs,x,h=>by
    unfold Fits at hF
    obtain⟨n,rfl,_,hw⟩:=DataW.trod_int hF.1 h
    refine⟨rfl,.int k n,?_,?_,fun _=>?_⟩
    · unfold IsSh;exact⟨n,rfl⟩
    · unfold Lies;exact⟨rfl,hw⟩
    · unfold smallDt;trivial
  | .bool,T,hF,fuel,cs,x,h=>by
    unfold Fits at hF
    obtain⟨b,rfl,_⟩:=DataW.trod_bool hF.1 h
    refine⟨rfl,.bool b,?_,?_,fun _=>?_⟩
    · unfold IsSh;exact⟨b,rfl⟩
    · unfold Lies;rfl
    · unfold smallDt;trivial
  | .str,T,hF,fuel,cs,x,h=>by
    unfold Fits at hF
    obtain⟨s,rfl,hx,hm⟩:=DataW.trod_string hF.1 h
    refine⟨rfl,.str s,?_,?_,fun hw=>?_⟩
    · unfold IsSh;exact⟨s,rfl⟩
    · unfold Lies;exact⟨rfl,hm⟩
    · unfold smallDt
      rw[hx] at hw
      unfold Rows.uptoBulk at hw
      have e:s.data.toList.length=s.size:=Array.length_toList
      omega
  | .bys,T,hF,fuel,cs,x,h=>by
    unfold Fits at hF
    obtain⟨U,hT,hU,hc,hb,_⟩:=hF
    have hcs: ∃A la ca,cs=[.slice A la ca]:=by
      rcases DataW.trod_slice hT h with ⟨e,_⟩ | ⟨a,len,cap,elems,rest,_,_,e,_⟩
      · exact⟨none,0,0,e⟩
      · exact⟨some a,len,cap,e⟩
    obtain⟨A,la,ca,rfl⟩:=hcs
    obtain⟨b,hby,hb1,hb2,_⟩:=open_bys hT hU hc ⟨fuel,h⟩
    refine⟨rfl,.bys b,?_,?_,fun hw=>?_⟩
    · unfold IsSh;exact⟨b,rfl⟩
    · unfold Lies;exact⟨A,la,ca,rfl,hb1,hb2,hby,fun _ _ _ _ _=>trivial⟩
    · unfold smallDt;trivial
  | .agg l,T,hF,fuel,cs,x,h=>by
    unfold Fits at hF
    obtain⟨fs,hT,hc,hf⟩:=hF
    obtain⟨xs,m,rfl,hx,hl,hlen,hg⟩:=DataW.trod_struct hT h
    rw[hc] at hl
    obtain⟨ds,h1,h2,h3⟩:=sms_of l 0 fs.toList hf cs xs m (fun i f hi=>hg i f (by simpa using hi)) (by simpa using hlen) (by omega)
    refine⟨by unfold Sh.sz;exact hl,.agg ds,?_,?_,fun hw=>?_⟩
    · unfold IsSh;exact⟨ds,rfl,h1⟩
    · unfold Lies;simpa using h2
    · unfold smallDt
      refine h3 ?_
      rw[hx] at hw
      unfold Rows.uptoBulk at hw
      omega
  | .row s,T,hF,fuel,cs,x,h=>by
    unfold Fits at hF
    obtain⟨U,hT,hs,_,hz⟩:=hF
    have hsz:=hs.cells
    rcases DataW.trod_slice hT h with ⟨rfl,rfl⟩ | ⟨a,len,cap,elems,rest,m,rfl,rfl,rfl,_,hl,hm,hlen,hel,hsp,_⟩
    · refine⟨rfl,.row s.sz [],?_,?_,fun _=>?_⟩
      · unfold IsSh;exact⟨[],rfl,fun x hx=>by simp at hx⟩
      · unfold Lies;exact⟨none,0,rfl,Nat.le_refl _,Nat.zero_le _,fun h=>absurd h (by simp)⟩
      · unfold smallDt smallDts;exact⟨Nat.zero_le _,trivial⟩
    · obtain⟨b,off,spot⟩:=a
      have each: ∀i,i<len→∃d:Dt,∃c:List Value,W.cells? 0 ((⟨b,off,spot⟩:Addr).add (i*s.sz)) s.sz=some c∧c.length=s.sz∧IsSh s d∧Lies (fun _=>True) W d c∧(∀e,elems[i]? =some e→Rows.uptoBulk e.1≤1048576→smallDt d):=by
        intro i hi
        have hk:=hel i hi
        rw[hsz,List.getElem?_eq_getElem (by omega)] at hk
        obtain⟨cs',h1,h2⟩:=Option.bind_eq_some_iff.1 hk
        obtain⟨h3,d,h4,h5,h6⟩:=sm_of s U hs m cs' _ h2
        exact⟨d,cs',h1,h3,h4,h5,fun e he=>by rw[List.getElem?_eq_getElem (by omega)] at he;cases he;exact h6⟩
      obtain⟨f,hf⟩:=Go.Deep.choose_lt each
      refine⟨rfl,.row s.sz ((List.range len).map f),?_,?_,fun hw=>?_⟩
      · unfold IsSh
        refine⟨_,rfl,fun d hd=>?_⟩
        obtain⟨i,hi,rfl⟩:=List.mem_map.1 hd
        obtain⟨_,_,_,h4,_,_⟩:=hf i (List.mem_range.1 hi)
        exact h4
      · unfold Lies
        refine⟨some ⟨b,off,spot⟩,cap,by simp,by simp;omega,hm,fun hn=>?_⟩
        have hn:0<len:=by simpa using hn
        obtain⟨c,hc,hcl,_⟩:=hf 0 hn
        have hcell:=(World.cells?_some hc).2.2 0 (by omega)
        rw[Nat.zero_mul,List.getElem?_eq_getElem (by omega)] at hcell
        have hspot:spot=none:=by simpa[Addr.add] using World.cell?_spot hcell
        subst hspot
        have hlt:b<W.heap.size:=by
          have:=World.block_lt_of_cell? W _ hcell
          simpa[Addr.add] using this
        refine⟨b,off,rfl,hlt,trivial,LiesRow.of fun i hi=>?_⟩
        have hi:i<len:=by simpa using hi
        obtain⟨c,hc,hcl,h4,h5,_⟩:=hf i hi
        refine⟨c,hcl,fun j u hu=>?_,by simpa using h5⟩
        have hj:=(List.getElem?_eq_some_iff.1 hu).1
        have:=(World.cells?_some hc).2.2 j (by omega)
        rw[Addr.add_lit,Addr.add_lit] at this
        rw[this,hu]
      · unfold smallDt
        unfold Rows.uptoBulk at hw
        refine⟨?_,smallDts_all.2 fun d hd=>?_⟩
        · have h1:=bulk_len (elems.map (·.1))
          rw[List.length_map] at h1
          rw[List.length_map,List.length_range]
          omega
        obtain⟨i,hi,rfl⟩:=List.mem_map.1 hd
        have hi:i<len:=List.mem_range.1 hi
        obtain⟨_,_,_,_,_,hfit⟩:=hf i hi
        have hel:elems[i]? =some (elems[i]'(by omega)):=List.getElem?_eq_getElem (by omega)
        have hin:=tlvc.bulk_in (l:=elems.map (·.1)) (j:=i) (d:=(elems[i]'(by omega)).1) (by rw[List.getElem?_map,hel];rfl)
        exact hfit _ hel (by omega)
theorem sms_of: ∀(l:List Sh) (off:Nat) (fs:List Field),FitsAll P off l fs→∀(cs:List Value) (xs:List (DataW H × List MemPlace)) (m:Nat),(∀(i:Nat) (f:Field),fs[i]? =some f→DataW.trod enc P W 0 (fun _=>true) held m f.type ((cs.drop f.offset).take (P.cellsOf f.type))=xs[i]?)→xs.length=fs.length→cs.length=off+szs l→
    ∃ds,IsShs l ds∧LiesAll (fun _=>True) W ds (cs.drop off)∧(Rows.uptoBulkAll (xs.map (·.1))≤1048576→smallDts ds)
  | [],off,[],hF,cs,xs,m,hg,hx,hl=>by
    refine⟨[],?_,?_,fun _=>?_⟩
    · unfold IsShs;trivial
    · unfold LiesAll;unfold szs at hl;exact List.drop_eq_nil_of_le (by omega)
    · unfold smallDts;trivial
  | [],off,f::fs,hF,_,_,_,_,_,_=>by unfold FitsAll at hF;exact hF.elim
  |s::ss,off,[],hF,_,_,_,_,_,_=>by unfold FitsAll at hF;exact hF.elim
  |s::ss,off,f::fs,hF,cs,xs,m,hg,hx,hl=>by
   unfold FitsAll at hF
   obtain⟨ho,hs,hr⟩:=hF
   unfold szs at hl
   match xs,hx with
   |y::ys,hx=>
    have h0:=hg 0 f rfl
    rw[ho,hs.cells] at h0
    obtain⟨hpl,d,h1,h2,h3⟩:=sm_of s f.type hs m _ y h0
    obtain⟨ds,k1,k2,k3⟩:=sms_of ss (off+s.sz) fs hr cs ys m (fun i f' hi=>by have:=hg (i+1) f' (by simpa using hi);simpa using this) (by simpa using hx) (by omega)
    refine⟨d::ds,?_,?_,fun hw=>?_⟩
    · unfold IsShs;exact⟨h1,k1⟩
    · unfold LiesAll
      refine⟨(cs.drop off).take s.sz,cs.drop (off+s.sz),?_,h2,k2⟩
      rw[←List.drop_drop,List.take_append_drop]
    · unfold smallDts
      have hw:Rows.uptoBulk y.1+Rows.uptoBulkAll (ys.map (·.1))≤1048576:=hw
      exact⟨h3 (by omega),k3 (by omega)⟩
end
end
theorem bulk_at {H:Type}{ds:List (DataW H)}(hk:Rows.uptoSmall H ds=true){j:Nat}{d:DataW H}(h:ds[j]? =some d):Rows.uptoBulk d≤1048576:=by
  have h1:Rows.uptoBulkAll ds≤1048576:=of_decide_eq_true hk
  have h2:=tlvc.bulk_in h
  omega
section
variable {P:Program} {T:TypeId}
theorem fit_int {k:IntKind}(h:P.underlying T=some (.int k))(hc:P.cellsOf T=1):Fits P (.int k) T:=by unfold Fits;exact⟨h,hc⟩
theorem fit_str (h:P.underlying T=some .string)(hc:P.cellsOf T=1):Fits P .str T:=by unfold Fits;exact⟨h,hc⟩
theorem fit_row {s:Sh}{U:TypeId}(h:P.underlying T=some (.slice U))(hs:Fits P s U)(hc:P.cellsOf T=1)(hz:decide (0<s.sz)=true):Fits P (.row s) T:=by unfold Fits;exact⟨U,h,hs,hc,of_decide_eq_true hz⟩
theorem fit_agg {l:List Sh}{fs:Array Field}(h:P.underlying T=some (.struct fs))(hc:P.cellsOf T=szs l)(hf:FitsAll P 0 l fs.toList):Fits P (.agg l) T:=by unfold Fits;exact⟨fs,h,hc,hf⟩
theorem fits_cons {off:Nat}{s:Sh}{ss:List Sh}{f:Field}{fs:List Field}(ho:f.offset=off)(hs:Fits P s f.type)(hr:FitsAll P (off+s.sz) ss fs):FitsAll P off (s::ss) (f::fs):=by unfold FitsAll;exact⟨ho,hs,hr⟩
theorem fits_nil {off:Nat}:FitsAll P off [] []:=by unfold FitsAll;trivial
end
/-- An argument of any shape, where what comes in is small. -/
theorem open_shS {H:Type}{enc:TypeId × Value→H}{P:Program}{W:World}{held:Bool}{s:Sh}{T:TypeId}(hF:Fits P s T){v:Value}{d:DataW H}{p:List MemPlace}(h:DataW.Trod enc P W 0 (fun _=>true) held T v d p): ∃x,IsSh s x∧Lies (fun _=>True) W x v.cells.toList∧v.cells.toList.length=s.sz∧(Rows.uptoBulk d≤1048576→smallDt x):=by
  obtain⟨fuel,hf⟩:=h
  obtain⟨h0,x,h1,h2,h3⟩:=sm_of s T hF fuel _ _ hf
  exact⟨x,h1,h2,h0,h3⟩
end Go.Proofs.Ytclmaglkekkigaa.dtc
