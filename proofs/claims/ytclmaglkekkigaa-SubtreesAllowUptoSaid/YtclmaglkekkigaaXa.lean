/- Words that the contracts of this layer share: bytes in new memory, string(b), bytes.Equal; blocks that are known whole. The kinds of runes, as the program tells them. Texts as runes, and texts prepared: plain words. Which runes may stand in a text of a tag. Blocks that are known whole: stores into them. The program's all, and Right for tags of bytes. The library's Builder in this program: its check, a byte more, a rune more. The program's Prep. -/
import Derived.Test.YtclmaglkekkigaaRows
import Derived.Test.YtclmaglkekkigaaKa
import Derived.WalkKit
import Derived.ProofKit
import Derived.WalkMore
import Derived.Outline
import Derived.WalkSpells
import Derived.Below
import Derived.Lib.Hide
import Derived.Lib.Bytes
import Derived.Lib.OthersKept
import Derived.IntWalk
import Derived.Lib.RuneBytes
import Derived.Lib.RuneCount
import Derived.Test.YtclmaglkekkigaaShelf
import Derived.Shelf.Strings.BuilderRune
import Derived.BigCall
namespace Go.Proofs.Ytclmaglkekkigaa.txc
open Go.RowKit Go.Proofs.Ytclmaglkekkigaa.tlvc
set_option linter.unusedVariables false

theorem ret_i64 {a b:Int}(h:a=b):Ending.returned (.int .i64 a)=.returned (.int .i64 b):=by rw[h]
theorem heap_old (w:World)(o:Obj){k:Nat}(h:k<w.heap.size):(w.alloc o).heap[k]? =w.heap[k]? :=((Below.refl _ w).alloc (Nat.le_refl _) o).block k h
/-- One call behind another. -/
theorem then_ {w a b:World}(h:Below w.heap.size w a)(k:Below a.heap.size a b):Below w.heap.size w b:=h.trans (k.mono h.size)
/-- The bytes ys in new memory (or nil, if there are none). -/
def Here (B:Nat)(A:Option Addr)(c:Nat)(ys:List Int)(w':World):Prop:=
  Bys w' A ys.length ys∧ys.length≤c∧c≤maxLen∧(∀b off,A=some ⟨b,off,none⟩→B≤b∧off=0)
theorem Try.info5:(Try.prog.info? 5).map (fun i=>(i.zero,i.size,i.bytes))=some (some (.int .u8 0),1,1):=by kernel_rfl

end Go.Proofs.Ytclmaglkekkigaa.txc
namespace Go.Proofs.Ytclmaglkekkigaa.txm
def Noth (r:Int):Prop:=r=173∨(8203≤r∧r≤8205)∨r=65279
def Blank (r:Int):Prop:=r=32∨(9≤r∧r≤13)∨r=133∨r=160∨(8192≤r∧r≤8202)∨r=8232∨r=8233∨r=8239∨r=12288
def Great (r:Int):Prop:=(65≤r∧r≤90)∨(192≤r∧r≤214)∨(216≤r∧r≤222)∨(913≤r∧r≤929)∨(931≤r∧r≤937)∨(1040≤r∧r≤1071)
instance (r:Int):Decidable (Noth r):=by unfold Noth;infer_instance
instance (r:Int):Decidable (Blank r):=by unfold Blank;infer_instance
instance (r:Int):Decidable (Great r):=by unfold Great;infer_instance
def kindF (r:Int):Int:=if Noth r then 1 else if Blank r then 2 else if Great r then 3 else 0
theorem kind_n {r:Int}(h:Noth r):kindF r=1:=if_pos h
theorem kind_b {r:Int}(h:Blank r):kindF r=2:=by
  unfold kindF
  rw[if_neg (by unfold Noth;unfold Blank at h;omega),if_pos h]
theorem kind_g {r:Int}(h:Great r):kindF r=3:=by
  unfold kindF
  rw[if_neg (by unfold Noth;unfold Great at h;omega),if_neg (by unfold Blank;unfold Great at h;omega),if_pos h]
theorem kind_0 {r:Int}(h1: ¬Noth r)(h2: ¬Blank r)(h3: ¬Great r):kindF r=0:=by
  unfold kindF;rw[if_neg h1,if_neg h2,if_neg h3]
end Go.Proofs.Ytclmaglkekkigaa.txm
namespace Go.Proofs.Ytclmaglkekkigaa.txc
open Go.RowKit Go.Proofs.Ytclmaglkekkigaa.txm Go.Proofs.Ytclmaglkekkigaa.tlvc
set_option linter.unusedVariables false
set_option maxRecDepth 100000 in
set_option maxHeartbeats 4000000 in
theorem kindOf_any (r:Int)(w:World):
    Calls Try.prog 37 #[.int .i32 r] w fun e w'=>e=.returned (.int .i64 (kindF r))∧w=w':=by
  obtain⟨k,hk⟩: ∃k,kindF r=k:=⟨_,rfl⟩
  rw[hk]
  have HK:=Lib.hid hk
  clear hk
  go_enter Try.func37,Try.ntmps37
  go_wp2
  all_goals go_ret
  all_goals refine⟨ret_i64 ?_,rfl⟩
  all_goals rw[←HK.out]
  all_goals clear HK
  all_goals first | (rw[kind_n (by simp_all [Noth])];done) | (rw[kind_b (by simp_all [Blank])];done) | (rw[kind_g (by simp_all [Great])];done) |skip
  all_goals (simp only[beq_eq_false_iff_ne,ne_eq] at*;rw[kind_0 (by unfold Noth;omega) (by unfold Blank;omega) (by unfold Great;omega)])
end Go.Proofs.Ytclmaglkekkigaa.txc
namespace Go.Proofs.Ytclmaglkekkigaa.txm
/-- The runes of a text, from a place on. -/
def runesF (s:ByteArray):Nat→Nat→List Int
  |0,_=>[]
  |n+1,p=>if p<s.size then ((Utf8.decode s p).1:Int)::runesF s n (p+ (Utf8.decode s p).2) else []
def runes (s:ByteArray):List Int:=runesF s s.size 0
theorem runesF_end (s:ByteArray)(n p:Nat)(h: ¬p<s.size):runesF s n p=[]:=by cases n<;>simp[runesF,h]
theorem width_pos (s:ByteArray)(p:Nat)(h:p<s.size):1≤(Utf8.decode s p).2:=Lib.decode_width_pos s p h

/-- What is out so far, and whether a blank is owed. -/
def stepP (st:List Int × Bool)(r:Int):List Int × Bool:=
  if kindF r=1 then st
  else if kindF r=2 then (st.1,decide (st.1≠[]))
  else (st.1++(if st.2=true then [32] else [])++[if kindF r=3 then r+32 else r],false)
def prepR (l:List Int):List Int:=(l.foldl stepP ([],false)).1
def enc (l:List Int):List UInt8:=l.flatMap Lib.encodeRune
def prepF (s:ByteArray):List UInt8:=enc (prepR (runes s))
theorem enc_app (a b:List Int):enc (a++b)=enc a++enc b:=List.flatMap_append ..
theorem enc_one (r:Int):enc [r]=Lib.encodeRune r:=by simp[enc]
theorem encR_len (r:Int):1≤(Lib.encodeRune r).length∧(Lib.encodeRune r).length≤4:=by
  have:=Lib.runeCells_le r;rw[Lib.runeCells_length] at this;exact this
theorem enc_len (l:List Int):l.length≤(enc l).length∧(enc l).length≤4*l.length:=by
  induction l with
  |nil=>simp[enc]
  |cons a l ih=>
   have:=encR_len a
   have e:enc (a::l)=Lib.encodeRune a++enc l:=by simp[enc]
   rw[e,List.length_append,List.length_cons];omega
theorem enc_nil {l:List Int}:(enc l).length=0↔l=[]:=by
  have:=enc_len l
  constructor
  · intro h;exact List.eq_nil_of_length_eq_zero (by omega)
  · intro h;subst h;rfl
theorem encode32:Lib.encodeRune 32=[32]:=by decide
end Go.Proofs.Ytclmaglkekkigaa.txm
namespace Go.Proofs.Ytclmaglkekkigaa.txm
def PrintR (r:Int):Prop:=(65≤r∧r≤90)∨(97≤r∧r≤122)∨(48≤r∧r≤57)∨r=32∨r=39∨r=40∨r=41∨r=43∨r=44∨r=45∨r=46∨r=47∨r=58∨r=61∨r=63
def AsciiR (r:Int):Prop:=r<128
def GenR (r:Int):Prop:=32≤r∧r≤126
instance (r:Int):Decidable (PrintR r):=by unfold PrintR;infer_instance
instance (r:Int):Decidable (AsciiR r):=by unfold AsciiR;infer_instance
instance (r:Int):Decidable (GenR r):=by unfold GenR;infer_instance
end Go.Proofs.Ytclmaglkekkigaa.txm
namespace Go.Proofs.Ytclmaglkekkigaa.txc
open Go.RowKit Go.Proofs.Ytclmaglkekkigaa.txm Go.Proofs.Ytclmaglkekkigaa.tlvc
set_option linter.unusedVariables false
end Go.Proofs.Ytclmaglkekkigaa.txc
namespace Go.Proofs.Ytclmaglkekkigaa.txc
open Go.RowKit Go.Proofs.Ytclmaglkekkigaa.tlvc
set_option linter.unusedVariables false
theorem heap_set {w:World}{b:Nat}{c:Array Value}{T:TypeId}{fr:Nat × Nat}(h:w.heap[b]? =some (.cells c T fr))(j:Nat)(v:Value):(w.setCell ⟨b,j,none⟩ v).heap[b]? =some (.cells (c.setIfInBounds j v) T fr):=by
  have hlt:b<w.heap.size:=(Array.getElem?_eq_some_iff.1 h).1
  simp only[World.setCell,Array.getElem?_modify,if_pos,h,Option.map_some,Option.isSome_none,Bool.false_eq_true,if_false]
end Go.Proofs.Ytclmaglkekkigaa.txc
namespace Go.Proofs.Ytclmaglkekkigaa.txc
open Go.RowKit Go.Proofs.Ytclmaglkekkigaa.txm Go.Proofs.Ytclmaglkekkigaa.tlvc
set_option linter.unusedVariables false
end Go.Proofs.Ytclmaglkekkigaa.txc
namespace Go.Proofs.Ytclmaglkekkigaa.txc
open Go.RowKit Go.Proofs.Ytclmaglkekkigaa.tlvc
set_option linter.unusedVariables false

/-- A builder in block b, with these bytes; B: what lies below was there ahead of the call. -/
def Bld (B b:Nat)(bs:List Value)(w:World):Prop:=Lib.IsBuilderF 58 5 B b bs w
def Bld1 (B b:Nat)(bs:List Value)(w:World):Prop:=Lib.BuilderAtF 58 5 B b (.pointer (some ⟨b,0,none⟩)) bs w
theorem size45:(Try.prog.info? 58).map (·.size)=some 2:=by kernel_rfl
theorem lies45:liesAt Try.prog Try.prog.depth 58 (2/ Try.prog.cellsOf 58) 0 58 1=true:=by kernel_rfl
theorem func53:Try.prog.funcs[44]? =some Try.f44:=Try.func44

set_option maxRecDepth 100000 in
theorem check_fresh (b:Nat)(v:Value)(w:World)(hbk:w.heap[b]? =some (.cells #[.pointer none,v] 58 (0,0))):
    Calls Try.prog 42 #[.pointer (some ⟨b,0,none⟩)] w fun e w'=>e=.returned (.tuple #[])∧w'=w.setCell ⟨b,0,none⟩ (.pointer (some ⟨b,0,none⟩)):=by
  obtain⟨j,hj,hjs⟩:=Option.map_eq_some_iff.1 size45
  have h0:w.cell? ⟨b,0,none⟩=some (.pointer none):=by rw[Lib.cell_of_heap hbk];rfl
  have hsh:w.shape? b=some (58,2):=by simp[World.shape?,hbk]
  have hfz:w.frozen? ⟨b,0,none⟩=false:=Lib.frozen_of_heap hbk 0
  have hc:(w.setCell ⟨b,0,none⟩ (.pointer (some ⟨b,0,none⟩))).cell? ⟨b,0,none⟩=some (.pointer (some ⟨b,0,none⟩)):=by rw[Lib.cell_of_heap (heap_set hbk 0 _)];rfl
  go_enter Try.func42,Try.ntmps42
  go_wp2
  rw[Lib.run_to_unsafe w ⟨b,0,none⟩ Try.underlying55 Try.underlying70 hj (by rw[hjs];decide) hsh (Nat.zero_lt_succ 1)]
  simp only[Result.andThen]
  rw[Oper.upon_value]
  go_wp2
  rw[run_callFunc_extern func53 (by kernel_rfl) (by kernel_rfl) (by kernel_rfl) (e:=Extern.AbiNoEscape.same) (by kernel_rfl),Lib.run_noEscape]
  simp only[Result.andThen]
  rw[Oper.upon_value]
  go_wp2
  rw[Lib.run_from_unsafe w ⟨b,0,none⟩ Try.underlying70 Try.underlying55 hj hsh lies45]
  simp only[Result.andThen]
  rw[Oper.upon_value]
  go_wp2
  go_end0
  exact⟨rfl,rfl⟩

set_option maxRecDepth 100000 in
theorem check_used (b:Nat)(w:World)(h0:w.cell? ⟨b,0,none⟩=some (.pointer (some ⟨b,0,none⟩))):
    Calls Try.prog 42 #[.pointer (some ⟨b,0,none⟩)] w fun e w'=>e=.returned (.tuple #[])∧w'=w:=by
  obtain⟨j,hj,_⟩:=Option.map_eq_some_iff.1 size45
  go_enter Try.func42,Try.ntmps42
  go_wp2
  rw[Lib.run_neq_ptr_same w _ Try.underlying55 hj]
  go_wp2
  go_end0
  exact⟨rfl,rfl⟩

/-- Behind a call on a builder: it holds these bytes, what lay below B is as it was, and so is all but the builder and rows of bytes. -/
def After (B b:Nat)(bs:List Value)(w w':World):Prop:=Bld1 B b bs w'∧Below B w w'∧Lib.OthersKept 5 (some b) w w'

theorem check_any {B b:Nat}{bs:List Value}{w:World}(h:Bld B b bs w):
    Calls Try.prog 42 #[.pointer (some ⟨b,0,none⟩)] w fun e w'=>e=.returned (.tuple #[])∧After B b bs w w':=by
  rcases h with h |h
  · have hu:=h
    obtain⟨hB0,v,hbk,_⟩:=hu
    refine(check_fresh b v w hbk).mono fun e w' hh=>?_
    obtain⟨rfl,rfl⟩:=hh
    exact⟨rfl,h.used _,(Below.refl B w).setCell (p:=⟨b,0,none⟩) h.1 _,(Lib.OthersKept.refl _ _ w).setCell ⟨b,0,none⟩ rfl _⟩
  · refine(check_used b w h.cell0).mono fun e w' hh=>?_
    obtain⟨rfl,rfl⟩:=hh
    exact⟨rfl,h,Below.refl B _,Lib.OthersKept.refl _ _ _⟩

theorem Bld1.parts {B b:Nat}{bs:List Value}{w:World}(h:Bld1 B b bs w):B≤b∧b<w.heap.size∧∃A c,w.heap[b]? =some (.cells #[.pointer (some ⟨b,0,none⟩),.slice A bs.length c] 58 (0,0))∧w.ownsRowF B 5 1 (.slice A bs.length c) bs.length bs∧(Value.slice A bs.length c).ownBlock≠some b:=by
  have hl:=Lib.BuilderAtF.lt h
  obtain⟨h1,v,h2,h3,h4⟩:=h
  rcases h3.2 with ⟨rfl,h0⟩ | ⟨g,cap,cur,fz,rfl,_⟩
  · rw[h0];rw[h0] at h3;exact⟨h1,hl,none,0,h2,h3,h4⟩
  · exact⟨h1,hl,_,_,h2,h3,h4⟩

/-- What is stored back when the row has grown. -/
theorem after_put {B b:Nat}{bs xs:List Value}{w w1 w2:World}{A:Option Addr}{c:Nat}{o:Obj}{v':Value}(hB:B≤b)(hlt:b<w1.heap.size)(hbw:Below B w w1)(hk:Lib.OthersKept 5 (some b) w w1)
    (hbk:w1.heap[b]? =some (.cells #[.pointer (some ⟨b,0,none⟩),.slice A bs.length c] 58 (0,0))) (hown:w1.ownsRowF B 5 1 (.slice A bs.length c) bs.length bs) (hne:(Value.slice A bs.length c).ownBlock≠some b)
    (hown':w2.ownsRowF B 5 1 v' (bs.length+xs.length) (bs++xs)) (hg:(w1.alloc o).grownBy w2 (Value.slice A bs.length c).ownBlock) (hpos:0<xs.length):
    w2.heap[b]? =some (.cells #[.pointer (some ⟨b,0,none⟩),.slice A bs.length c] 58 (0,0))∧After B b (bs++xs) w (w2.setCell ⟨b,1,none⟩ v')∧∃g c',v'=.slice (some ⟨g,0,none⟩) (bs.length+xs.length) c':=by
  have hb2:w2.heap[b]? =some (.cells #[.pointer (some ⟨b,0,none⟩),.slice A bs.length c] 58 (0,0)):=by
    rw[hg.block b (by simp;omega) (fun e=>hne e.symm),heap_old w1 o hlt];exact hbk
  refine⟨hb2,⟨Lib.BuilderAtF.put (bs':=bs++xs) hB hb2 (by rw[List.length_append];exact hown') (by decide),?_,((hk.alloc _).grown hg (Lib.ownsRowF_kind (hown.alloc _))).setCell ⟨b,1,none⟩ rfl _⟩,?_⟩
  · exact((hbw.alloc (Nat.le_trans hB (Nat.le_of_lt hlt)) _).grown hg (by simp;omega) fun k hk=>(hown.lt k hk).1).setCell (p:=⟨b,1,none⟩) hB _
  · rcases hown'.2 with ⟨_,h0⟩ | ⟨g,cap,cur,fz,hv,_⟩
    · omega
    · exact⟨g,cap,hv⟩

set_option maxRecDepth 100000 in
set_option maxHeartbeats 1000000 in
theorem wbyte_any {B b:Nat}{bs:List Value}{w:World}(x:Int)(h:Bld B b bs w)(hlen:bs.length+1≤140737488355328):
    Calls Try.prog 39 #[.pointer (some ⟨b,0,none⟩),.int .u8 x] w fun e w'=>e=.returned .nilIface∧After B b (bs++[.int .u8 x]) w w':=by
  obtain⟨i0,hi,hz0,hz1,hz2⟩:=info_parts Try.info5
  go_enter Try.func39,Try.ntmps39
  go_wp2_with fail
  refine(check_any h).mono ?_
  rintro e w1 ⟨rfl,h1,hb1,hk1⟩
  obtain⟨hB,hlt,A,c,hbk,hown,hne⟩:=h1.parts
  have c0:w1.cell? ⟨b,0,none⟩=some (.pointer (some ⟨b,0,none⟩)):=by rw[Lib.cell_of_heap hbk];rfl
  have c1:w1.cell? ⟨b,1,none⟩=some (.slice A bs.length c):=by rw[Lib.cell_of_heap hbk];rfl
  have hnew: ∀j u,[Value.int .u8 x][j]? =some u→(w1.alloc (.cells #[.int .u8 x] 5)).cell? ((⟨w1.heap.size,0,none⟩:Addr).add j)=some u:=by
    intro j u hj
    match j,hj with
    |0,hj=>simp at hj;subst hj;simp[Addr.add]
  have hfin: ∀(v':Value) (w2:World),w2.ownsRowF B 5 1 v' (bs.length+1) (bs++[.int .u8 x])→(w1.alloc (.cells #[.int .u8 x] 5)).grownBy w2 (Value.slice A bs.length c).ownBlock→_:=
    fun v' w2 ho hg=>after_put (xs:=[.int .u8 x]) hB hlt hb1 hk1 hbk hown hne ho hg (Nat.zero_lt_one)
  have HF:=Lib.hid hfin
  clear hfin
  go_wp2_with (at_builtin;refine wpList_append_ownF _ rfl _ _ 56 rfl B 5 i0 (.int .u8 0) 1 1 Try.underlying56 hi hz0 hz1 hz2 rfl (by decide) _ _ _ rfl (hown.alloc _) ⟨w1.heap.size,0,none⟩ 1 1 [.int .u8 x] rfl rfl hnew ?c2 ?c3 ?c4 ?c5 ?_)
  case c2=>intro u hu;simp at hu;subst hu;rfl
  case c3=>unfold maxLen;omega
  case c4=>omega
  case c5=>simp;omega
  intro v' w2 hown' hgrow _
  obtain⟨hb2,haf,g,c',rfl⟩:=HF.out v' w2 hown' hgrow
  have d0:w2.cell? ⟨b,0,none⟩=some (.pointer (some ⟨b,0,none⟩)):=by rw[Lib.cell_of_heap hb2];rfl
  have d1:w2.cell? ⟨b,1,none⟩=some (.slice A bs.length c):=by rw[Lib.cell_of_heap hb2];rfl
  have f1:w2.frozen? ⟨b,1,none⟩=false:=Lib.frozen_of_heap hb2 1
  go_wp2
  go_ret
  exact⟨rfl,haf⟩

set_option maxRecDepth 100000 in
set_option maxHeartbeats 1000000 in
theorem wrune_any {B b:Nat}{bs:List Value}{w:World}(r:Int)(hr0: -2147483648≤r)(hr1:r≤2147483647)(h:Bld B b bs w)(hlen:bs.length+4≤140737488355328):
    Calls Try.prog 40 #[.pointer (some ⟨b,0,none⟩),.int .i32 r] w fun e w'=>(∃n,e=.returned (.tuple #[.int .i64 n,.nilIface]))∧After B b (bs++Lib.runeCells r) w w':=by
  have hl4:=Lib.runeCells_le r
  go_enter Try.func40,Try.ntmps40
  go_wp2_with fail
  refine(check_any h).mono ?_
  rintro e w1 ⟨rfl,h1,hb1,hk1⟩
  obtain⟨hB,hlt,A,c,hbk,hown,hne⟩:=h1.parts
  have c0:w1.cell? ⟨b,0,none⟩=some (.pointer (some ⟨b,0,none⟩)):=by rw[Lib.cell_of_heap hbk];rfl
  have c1:w1.cell? ⟨b,1,none⟩=some (.slice A bs.length c):=by rw[Lib.cell_of_heap hbk];rfl
  have hap:=Any.utf8_AppendRune_own Try.lays242 Try.Builder_Extra_242 B _ bs.length bs r hr0 hr1 w1 hown hlen (by omega)
  have HA:Calls Try.prog 43 #[.slice A bs.length c,.int .i32 r] w1 _:=hap
  go_wp2_with fail
  refine HA.mono ?_
  rintro e w2 ⟨v',rfl,hown',o,hgrow⟩
  obtain⟨hb2,haf,g,c',rfl⟩:=after_put (xs:=Lib.runeCells r) hB hlt hb1 hk1 hbk hown hne hown' hgrow (by omega)
  have d0:w2.cell? ⟨b,0,none⟩=some (.pointer (some ⟨b,0,none⟩)):=by rw[Lib.cell_of_heap hb2];rfl
  have d1:w2.cell? ⟨b,1,none⟩=some (.slice A bs.length c):=by rw[Lib.cell_of_heap hb2];rfl
  have f1:w2.frozen? ⟨b,1,none⟩=false:=Lib.frozen_of_heap hb2 1
  clear hap HA c0 c1 hbk hown hne hgrow hown'
  go_wp2
  go_ret2
  exact⟨⟨_,rfl⟩,haf⟩

theorem blen_any {B b:Nat}{bs:List Value}{w:World}(h:Bld B b bs w):Calls Try.prog 38 #[.pointer (some ⟨b,0,none⟩)] w fun e w'=>e=.returned (.int .i64 bs.length)∧w'=w:=
  Any.Builder_Len_f Try.lays170 B b bs w h
theorem bstr_any {B b:Nat}{l:List UInt8}{w:World}(h:Bld B b (Lib.byteCells l) w)(hB:B≤w.heap.size):Calls Try.prog 41 #[.pointer (some ⟨b,0,none⟩)] w fun e w'=>e=.returned (.string ⟨l.toArray⟩)∧Below B w w':=
  (Any.Builder_String_any_k Try.lays169 Try.Builder_Extra_169 B b l w h hB).mono fun e w' hh=>⟨hh.1,hh.2.2.1⟩
end Go.Proofs.Ytclmaglkekkigaa.txc
namespace Go.Proofs.Ytclmaglkekkigaa.txc
open Go.RowKit Go.Proofs.Ytclmaglkekkigaa.txm Go.Proofs.Ytclmaglkekkigaa.tlvc
set_option linter.unusedVariables false

theorem kind_ways (r:Int):kindF r=1∨kindF r=2∨kindF r=3∨kindF r=0:=by
  unfold kindF;split
  · exact .inl rfl
  · split
    · exact .inr (.inl rfl)
    · split
      · exact .inr (.inr (.inl rfl))
      · exact .inr (.inr (.inr rfl))

/-- What holds at each round of Prep's loop. -/
def PrepAt (s:ByteArray)(B:Nat)(w:World)(parted:Bool)(wr:World):Prop:=
  ∃(pos n:Nat) (out:List Int),Bld B B (Lib.byteCells (enc out)) wr∧wr.heap[B+1]? =some (.stringIter s pos)∧Below B w wr∧((runesF s n pos).foldl stepP (out,parted)).1=prepR (runes s)∧s.size≤pos+n∧(enc out).length+ (if parted=true then 1 else 0)≤4*pos

set_option maxRecDepth 100000 in
set_option maxHeartbeats 4000000 in
theorem prep_any (s:ByteArray)(w:World)(hs:s.size≤8796093022208):
    Calls Try.prog 33 #[.string s] w fun e w'=>e=.returned (.string ⟨(prepF s).toArray⟩)∧Below w.heap.size w w':=by
  go_enter Try.func33,Try.ntmps33
  go_wp2_with fail
  go_loopw [4,6] (fun t4 _ wr=>∃parted:Bool,t4=.bool parted∧PrepAt s w.heap.size w parted wr) (fun _ _ wr=>s.size - wr.iterPos (w.heap.size+1))
  case atStart=>
    refine⟨false,rfl,0,s.size,[],(Lib.IsBuilderF.of (Lib.fresh_isBuilder 58 5 w)).alloc _,?_,((Below.refl _ w).alloc (Nat.le_refl _) _).alloc (by simp) _,rfl,by omega,by simp[enc]⟩
    have:=World.iter_heap (w.alloc (.cells #[.pointer none,.slice none 0 0] 58)) s 0
    simpa using this
  case round=>
    obtain⟨parted,rfl,pos,n,out,hI,hit,hbw,hacc,hfu,hal⟩:=hrel
    have hsz:w.heap.size+1<wr.heap.size:=(Array.getElem?_eq_some_iff.1 hit).1
    by_cases hp:pos<s.size
    · have hnx: ∀ty,(Instr.next (.pointer (some ⟨w.heap.size+1,0,none⟩)) true ty).run Try.prog wr=_:=fun ty=>Lib.run_next_any_at wr (w.heap.size+1) s pos ty hit hp
      have hwd:=width_pos s pos hp
      have hd1:=decode_le s pos
      have hI2:=hI.iterAt hit (pos+ (Utf8.decode s pos).2)
      have hit2:=Lib.iterAt_heap wr (w.heap.size+1) s pos (pos+ (Utf8.decode s pos).2) hit
      have hbw2:=Lib.below_iterAt hbw (k:=w.heap.size+1) (by omega) s (pos+ (Utf8.decode s pos).2)
      have hsz2:w.heap.size≤(wr.iterAt (w.heap.size+1) s (pos+ (Utf8.decode s pos).2)).heap.size:=by rw[Lib.iterAt_size];omega
      obtain⟨m,rfl⟩: ∃m,n=m+1:=⟨n - 1,by omega⟩
      simp only[runesF,hp,if_true,List.foldl_cons] at hacc
      obtain⟨r,hr⟩: ∃r:Nat,(Utf8.decode s pos).1=r:=⟨_,rfl⟩
      obtain⟨d,hd⟩: ∃d:Nat,(Utf8.decode s pos).2=d:=⟨_,rfl⟩
      rw[hr,hd] at hnx hacc
      rw[hd] at hwd hI2 hit2 hbw2 hsz2
      rw[hr] at hd1
      obtain⟨W,hW⟩: ∃W,wr.iterAt (w.heap.size+1) s (pos+d)=W:=⟨_,rfl⟩
      rw[hW] at hnx hI2 hit2 hbw2 hsz2
      have hm:s.size - W.iterPos (w.heap.size+1)<s.size - wr.iterPos (w.heap.size+1):=by
        simp only[World.iterPos,hit2,hit];omega
      clear hI hit hbw hW hr hd
      have HA:=Lib.hid hacc
      clear hacc
      have hr0:(0:Int)≤(r:Int):=by omega
      rcases kind_ways r with hk |hk |hk |hk
      · have HK:=Lib.hid hk
        clear hk
        go_wp2_with fail
        refine(kindOf_any _ _).mono ?_
        rw[HK.out]
        rintro e w' ⟨rfl,rfl⟩
        go_wp2
        go_roundw
        case rel=>exact⟨parted,rfl,pos+d,m,out,hI2,hit2,hbw2,by have:=HA.out;simpa[stepP,HK.out] using this,by omega,by omega⟩
        case measure=>exact hm
      · have HK:=Lib.hid hk
        clear hk
        obtain⟨q,hq⟩: ∃q:Nat,(Lib.byteCells (enc out)).length=q:=⟨_,rfl⟩
        have hqo:q=0↔out=[]:=by rw[←hq,Lib.byteCells_length];exact enc_nil
        have HQ:=Lib.hid hq
        clear hq
        go_wp2_with fail
        refine(kindOf_any _ _).mono ?_
        rw[HK.out]
        rintro e w' ⟨rfl,rfl⟩
        go_wp2_with fail
        refine(blen_any hI2).mono ?_
        rw[HQ.out]
        rintro e w' ⟨rfl,rfl⟩
        by_cases h0:q=0
        · have ho:=hqo.1 h0
          have hc:decide (0<q)=false:=decide_eq_false (by omega)
          have HO:=Lib.hid ho
          clear h0 ho hqo
          go_wp2
          go_roundw
          case rel=>exact⟨false,rfl,pos+d,m,out,hI2,hit2,hbw2,by have:=HA.out;simpa[stepP,HK.out,HO.out] using this,by omega,by simp;split at hal<;>omega⟩
          case measure=>exact hm
        · have ho:out≠[]:=fun h=>h0 (hqo.2 h)
          have hc:decide (0<q)=true:=decide_eq_true (by omega)
          have HO:=Lib.hid ho
          clear h0 ho hqo
          go_wp2
          go_roundw
          case rel=>exact⟨true,rfl,pos+d,m,out,hI2,hit2,hbw2,by have:=HA.out;simpa[stepP,HK.out,HO.out] using this,by omega,by simp;split at hal<;>omega⟩
          case measure=>exact hm
      · have hgr:(r:Int)≤1071:=by
          unfold kindF at hk
          split at hk
          · omega
          · split at hk
            · omega
            · split at hk
              · rename_i h;unfold Great at h;omega
              · omega
        have HK:=Lib.hid hk
        clear hk
        go_wp2_with fail
        refine(kindOf_any _ _).mono ?_
        rw[HK.out]
        rintro e w' ⟨rfl,rfl⟩
        cases parted
        · have hI3:=hI2
          have hit3:=hit2
          have hbw3:=hbw2
          go_wp2_with fail
          refine(wrune_any _ (by omega) (by omega) hI3 (by rw[Lib.byteCells_length];omega)).mono ?_
          rintro e W1 ⟨⟨nn,rfl⟩,h1,b1,k1⟩
          have hit4:=k1.iter hit3 (by omega)
          have hbw4:=hbw3.trans b1
          have hI4:Bld w.heap.size w.heap.size (Lib.byteCells (enc (out++[((r:Int)+32)]))) W1:=by rw[enc_app,enc_one,Lib.byteCells_append,Lib.byteCells_encodeRune];exact .inr h1
          have hl4:=enc_len [((r:Int)+32)]
          go_wp2
          go_roundw
          case rel=>exact⟨false,rfl,pos+d,m,out++[((r:Int)+32)],hI4,hit4,hbw4,by have:=HA.out;simpa[stepP,HK.out] using this,by omega,by rw[enc_app,List.length_append];simp at hl4;simp;omega⟩
          case measure=>rw[show W1.iterPos (w.heap.size+1)=W.iterPos (w.heap.size+1) from by simp only[World.iterPos,hit4,hit2]];exact hm
        · have hal':(enc out).length+1≤4*pos:=by simpa using hal
          go_wp2_with fail
          refine(wbyte_any 32 hI2 (by rw[Lib.byteCells_length];simp at hal;omega)).mono ?_
          rintro e W0 ⟨rfl,h1,b1,k1⟩
          have hit3:=k1.iter hit2 (by omega)
          have hbw3:=hbw2.trans b1
          have hI3:Bld w.heap.size w.heap.size (Lib.byteCells (enc (out++[32]))) W0:=by rw[enc_app,enc_one,encode32,Lib.byteCells_append];exact .inr h1
          have hl3:(enc (out++[32])).length=(enc out).length+1:=by rw[enc_app,List.length_append,enc_one,encode32];rfl
          clear h1 b1 k1
          go_wp2_with fail
          refine(wrune_any _ (by omega) (by omega) hI3 (by rw[Lib.byteCells_length];omega)).mono ?_
          rintro e W1 ⟨⟨nn,rfl⟩,h1,b1,k1⟩
          have hit4:=k1.iter hit3 (by omega)
          have hbw4:=hbw3.trans b1
          have hI4:Bld w.heap.size w.heap.size (Lib.byteCells (enc ((out++[32])++[((r:Int)+32)]))) W1:=by rw[enc_app,enc_one,Lib.byteCells_append,Lib.byteCells_encodeRune];exact .inr h1
          have hl4:=enc_len [((r:Int)+32)]
          go_wp2
          go_roundw
          case rel=>exact⟨false,rfl,pos+d,m,(out++[32])++[((r:Int)+32)],hI4,hit4,hbw4,by have:=HA.out;simpa[stepP,HK.out] using this,by omega,by rw[enc_app,List.length_append];simp at hl4;simp;omega⟩
          case measure=>rw[show W1.iterPos (w.heap.size+1)=W.iterPos (w.heap.size+1) from by simp only[World.iterPos,hit4,hit2]];exact hm
      · have HK:=Lib.hid hk
        clear hk
        go_wp2_with fail
        refine(kindOf_any _ _).mono ?_
        rw[HK.out]
        rintro e w' ⟨rfl,rfl⟩
        cases parted
        · have hI3:=hI2
          have hit3:=hit2
          have hbw3:=hbw2
          go_wp2_with fail
          refine(wrune_any _ (by omega) (by omega) hI3 (by rw[Lib.byteCells_length];omega)).mono ?_
          rintro e W1 ⟨⟨nn,rfl⟩,h1,b1,k1⟩
          have hit4:=k1.iter hit3 (by omega)
          have hbw4:=hbw3.trans b1
          have hI4:Bld w.heap.size w.heap.size (Lib.byteCells (enc (out++[(r:Int)]))) W1:=by rw[enc_app,enc_one,Lib.byteCells_append,Lib.byteCells_encodeRune];exact .inr h1
          have hl4:=enc_len [(r:Int)]
          go_wp2
          go_roundw
          case rel=>exact⟨false,rfl,pos+d,m,out++[(r:Int)],hI4,hit4,hbw4,by have:=HA.out;simpa[stepP,HK.out] using this,by omega,by rw[enc_app,List.length_append];simp at hl4;simp;omega⟩
          case measure=>rw[show W1.iterPos (w.heap.size+1)=W.iterPos (w.heap.size+1) from by simp only[World.iterPos,hit4,hit2]];exact hm
        · have hal':(enc out).length+1≤4*pos:=by simpa using hal
          go_wp2_with fail
          refine(wbyte_any 32 hI2 (by rw[Lib.byteCells_length];simp at hal;omega)).mono ?_
          rintro e W0 ⟨rfl,h1,b1,k1⟩
          have hit3:=k1.iter hit2 (by omega)
          have hbw3:=hbw2.trans b1
          have hI3:Bld w.heap.size w.heap.size (Lib.byteCells (enc (out++[32]))) W0:=by rw[enc_app,enc_one,encode32,Lib.byteCells_append];exact .inr h1
          have hl3:(enc (out++[32])).length=(enc out).length+1:=by rw[enc_app,List.length_append,enc_one,encode32];rfl
          clear h1 b1 k1
          go_wp2_with fail
          refine(wrune_any _ (by omega) (by omega) hI3 (by rw[Lib.byteCells_length];omega)).mono ?_
          rintro e W1 ⟨⟨nn,rfl⟩,h1,b1,k1⟩
          have hit4:=k1.iter hit3 (by omega)
          have hbw4:=hbw3.trans b1
          have hI4:Bld w.heap.size w.heap.size (Lib.byteCells (enc ((out++[32])++[(r:Int)]))) W1:=by rw[enc_app,enc_one,Lib.byteCells_append,Lib.byteCells_encodeRune];exact .inr h1
          have hl4:=enc_len [(r:Int)]
          go_wp2
          go_roundw
          case rel=>exact⟨false,rfl,pos+d,m,(out++[32])++[(r:Int)],hI4,hit4,hbw4,by have:=HA.out;simpa[stepP,HK.out] using this,by omega,by rw[enc_app,List.length_append];simp at hl4;simp;omega⟩
          case measure=>rw[show W1.iterPos (w.heap.size+1)=W.iterPos (w.heap.size+1) from by simp only[World.iterPos,hit4,hit2]];exact hm
    · have hnx: ∀ty,(Instr.next (.pointer (some ⟨w.heap.size+1,0,none⟩)) true ty).run Try.prog wr=_:=fun ty=>Lib.run_next_end_at wr (w.heap.size+1) s pos ty hit hp
      have hout:out=prepR (runes s):=by rw[←hacc,runesF_end s n pos hp];rfl
      have HO:=Lib.hid hout
      clear hacc hout
      go_wp2_with fail
      refine(bstr_any hI (by omega)).mono ?_
      rintro e W1 ⟨rfl,b1⟩
      go_wp2
      go_ret
      exact⟨by rw[HO.out];rfl,hbw.trans b1⟩
end Go.Proofs.Ytclmaglkekkigaa.txc
