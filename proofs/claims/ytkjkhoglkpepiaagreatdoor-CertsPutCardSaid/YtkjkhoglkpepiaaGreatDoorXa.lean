/- Words that the contracts of this layer share: bytes in new m -/
import Derived.Test.YtkjkhoglkpepiaaGreatDoorRows
import Derived.Test.YtkjkhoglkpepiaaGreatDoorKa
import Derived.WalkKit
import Derived.ProofKit
import Derived.WalkMore
import Derived.Outline
import Derived.WalkSpells
import Derived.Below
import Derived.Lib.Hide
import Derived.Lib.Bytes
import Derived.Lib.OthersKept
import Derived.IntWalk
import Derived.Lib.RuneBytes
import Derived.Lib.RuneCount
import Derived.BigCall
set_option maxRecDepth 100000
set_option maxHeartbeats 4000000
set_option linter.unusedVariables false
set_option linter.unusedSimpArgs false
namespace Go.Proofs.YtkjkhoglkpepiaaGreatDoor.txc
open Go.RowKit tlvc
theorem ret_i64 {a b:Int}(h:a=b):Ending.returned (.int .i64 a)=.returned (.int .i64 b):=by rw[h]
theorem heap_new (w:World)(o:Obj):(w.alloc o).heap[w.heap.size]? =some o:=by
 show(w.heap.push o)[w.heap.size]? =some o
 simp
theorem heap_old (w:World)(o:Obj){k:Nat}(h:k<w.heap.size):(w.alloc o).heap[k]? =w.heap[k]? :=((br_ _ w).alloc (lr_ _) o).block k h
theorem then_ {w a b:World}(h:Below w.heap.size w a)(k:Below a.heap.size a b):Below w.heap.size w b:=h.trans (k.mono h.size)
theorem below_drewN {w:World}: ∀q,Below w.heap.size w (w.drewN q)
 |0=>br_ _ _
 |q+1=>(below_drewN q).drew
theorem bcell {W w1:World}(hb:Below W.heap.size W w1):(∀b o,b<W.heap.size→w1.cell? ⟨b,o,none⟩=W.cell? ⟨b,o,none⟩)∧(∀b o,b<W.heap.size→w1.frozen? ⟨b,o,none⟩=W.frozen? ⟨b,o,none⟩):=
 ⟨fun b o h=>hb.cell (p:=⟨b,o,none⟩) h,fun b o h=>hb.frozen (p:=⟨b,o,none⟩) h⟩
def Here (B:Nat)(A:Option Addr)(c:Nat)(ys:List Int)(w':World):Prop:=
 Bys w' A ys.length ys∧ys.length≤c∧c≤maxLen∧(∀b off,A=some ⟨b,off,none⟩→B≤b∧off=0)
def Made (w:World)(ys:List Int)(e:Ending)(w':World):Prop:=
 ∃A c,e=.returned (.slice A ys.length c)∧Here w.heap.size A c ys w'∧Below w.heap.size w w'
theorem made_own {w w':World}{v:Value}{n:Nat}{ys:List Int}(h:w'.ownsRow w.heap.size 5 1 v n (vals ys))(hf:Fit ys)(hb:Below w.heap.size w w'):Made w ys (.returned v) w':=by
 have hn:ys.length=n:=by have:=h.1;rw[vals_length] at this;omega
 subst hn
 rcases h.2 with ⟨rfl,h0⟩ | ⟨g,cap,cur,rfl,hg,hh,hc,hm,_⟩
 ·have e:ys=[]:=List.eq_nil_of_length_eq_zero h0
  subst e
  exact⟨none,0,rfl,⟨Bys.nil_ _ _,lr_ _,Nat.zero_le _,fun _ _ h=>by cases h⟩,hb⟩
 ·exact⟨_,cap,rfl,⟨Bys.own h hf,hc,hm,fun b off h=>by cases h;exact⟨hg,rfl⟩⟩,hb⟩
theorem Tryz.info5:(Tryz.prog.info? 5).map (fun i=>(i.zero,i.size,i.bytes))=some (some (.int .u8 0),1,1):=by kernel_rfl
theorem str_now {w:World}{A:Option Addr}{n:Nat}{xs:List Int}(h:Bys w A n xs)(c:Nat):
 (convert 34 9 (.slice A n c)).run Tryz.prog w=.ok (.string (strOfNums xs)) w:=
 run_str (P:=Tryz.prog) 34 5 Tryz.underlying34 Tryz.underlying5 A n c xs h 9 Tryz.underlying9
def sameB (xs ys:List Int):Bool:=(strOfNums xs).toList==(strOfNums ys).toList
theorem fit_ext: ∀{xs ys:List Int},Fit xs→Fit ys→Lib.bytesOf xs=Lib.bytesOf ys→xs=ys
 | [],[],_,_,_=>rfl
 | [],_::_,_,_,h=>by simp[Lib.bytesOf] at h
 |_::_,[],_,_,h=>by simp[Lib.bytesOf] at h
 |x::xs,y::ys,hx,hy,h=>by
  simp only[Lib.bytesOf,List.map_cons,List.cons.injEq] at h
  have h1:=hx x (by simp)
  have h2:=hy y (by simp)
  have e:x=y:=by
   have:=congrArg UInt8.toNat h.1
   simp only[UInt8.toNat_ofNat'] at this
   omega
  have e2:xs=ys:=fit_ext (fun z hz=>hx z (by simp[hz])) (fun z hz=>hy z (by simp[hz])) h.2
  rw[e,e2]
theorem sameB_iff {xs ys:List Int}(hx:Fit xs)(hy:Fit ys):sameB xs ys=true↔xs=ys:=by
 unfold sameB
 rw[Lib.strOfNums_toList,Lib.strOfNums_toList,beq_iff_eq]
 exact⟨fit_ext hx hy,fun h=>by rw[h]⟩
theorem sameB_no {xs ys:List Int}(hx:Fit xs)(hy:Fit ys)(h:xs≠ys):sameB xs ys=false:=by
 cases e:sameB xs ys
 ·rfl
 ·exact absurd ((sameB_iff hx hy).1 e) h
theorem equal_any (A B:Option Addr)(n c m d:Nat)(xs ys:List Int)(w:World)(hx:Bys w A n xs)(hy:Bys w B m ys):
 Calls Tryz.prog 20 #[.slice A n c,.slice B m d] w fun e w'=>e=.returned (.bool (sameB xs ys))∧w=w':=by
 have h1:=str_now hx c
 have h2:=str_now hy d
 go_enter Tryz.func20,Tryz.ntmps20
 go_wp2
 go_ret
 exact⟨rfl,rfl⟩
end Go.Proofs.YtkjkhoglkpepiaaGreatDoor.txc
namespace Go.Proofs.YtkjkhoglkpepiaaGreatDoor.txm
def Noth (r:Int):Prop:=r=173∨(8203≤r∧r≤8205)∨r=65279
def Blank (r:Int):Prop:=r=32∨(9≤r∧r≤13)∨r=133∨r=160∨(8192≤r∧r≤8202)∨r=8232∨r=8233∨r=8239∨r=12288
def Great (r:Int):Prop:=(65≤r∧r≤90)∨(192≤r∧r≤214)∨(216≤r∧r≤222)∨(913≤r∧r≤929)∨(931≤r∧r≤937)∨(1040≤r∧r≤1071)
instance (r:Int):Decidable (Noth r):=by unfold Noth;infer_instance
instance (r:Int):Decidable (Blank r):=by unfold Blank;infer_instance
instance (r:Int):Decidable (Great r):=by unfold Great;infer_instance
def kindF (r:Int):Int:=if Noth r then 1 else if Blank r then 2 else if Great r then 3 else 0
end Go.Proofs.YtkjkhoglkpepiaaGreatDoor.txm
namespace Go.Proofs.YtkjkhoglkpepiaaGreatDoor.txc
open Go.RowKit txm tlvc
end Go.Proofs.YtkjkhoglkpepiaaGreatDoor.txc
namespace Go.Proofs.YtkjkhoglkpepiaaGreatDoor.txm
def runesF (s:ByteArray):Nat→Nat→List Int
 |0,_=>[]
 |n+1,p=>if p<s.size then ((Utf8.decode s p).1:Int)::runesF s n (p+ (Utf8.decode s p).2) else []
def runes (s:ByteArray):List Int:=runesF s s.size 0
theorem runesF_end (s:ByteArray)(n p:Nat)(h: ¬p<s.size):runesF s n p=[]:=by cases n<;>simp[runesF,h]
theorem width_pos (s:ByteArray)(p:Nat)(h:p<s.size):1≤(Utf8.decode s p).2:=Lib.decode_width_pos s p h
def enc (l:List Int):List UInt8:=l.flatMap Lib.encodeRune
end Go.Proofs.YtkjkhoglkpepiaaGreatDoor.txm
namespace Go.Proofs.YtkjkhoglkpepiaaGreatDoor.txm
def PrintR (r:Int):Prop:=(65≤r∧r≤90)∨(97≤r∧r≤122)∨(48≤r∧r≤57)∨r=32∨r=39∨r=40∨r=41∨r=43∨r=44∨r=45∨r=46∨r=47∨r=58∨r=61∨r=63
def AsciiR (r:Int):Prop:=r<128
def GenR (r:Int):Prop:=32≤r∧r≤126
instance (r:Int):Decidable (PrintR r):=by unfold PrintR;infer_instance
instance (r:Int):Decidable (AsciiR r):=by unfold AsciiR;infer_instance
instance (r:Int):Decidable (GenR r):=by unfold GenR;infer_instance
def okR (t:Int)(r:Int):Bool:=if t=19 then decide (PrintR r) else if t=22 then decide (AsciiR r) else decide (GenR r)
end Go.Proofs.YtkjkhoglkpepiaaGreatDoor.txm
namespace Go.Proofs.YtkjkhoglkpepiaaGreatDoor.txc
open Go.RowKit txm tlvc
theorem ret_bool {a b:Bool}(h:a=b):Ending.returned (.bool a)=.returned (.bool b):=by rw[h]
theorem lit22_any (r:Int)(w:World):
 Calls Tryz.prog 210 #[.int .i32 r] w fun e w'=>e=.returned (.bool (decide (AsciiR r)))∧w=w':=by
 by_cases h:r<128
 ·rw[show decide (AsciiR r)=true from decide_eq_true h]
  go_enter Tryz.func210,Tryz.ntmps210
  go_wp2
  go_ret
  exact⟨ret_bool (by first |rfl | (simp;done) | (simp;omega)),rfl⟩
 ·rw[show decide (AsciiR r)=false from decide_eq_false h]
  go_enter Tryz.func210,Tryz.ntmps210
  go_wp2
  go_ret
  exact⟨ret_bool (by first |rfl | (simp;done) | (simp;omega)),rfl⟩
theorem lit27_any (r:Int)(w:World):
 Calls Tryz.prog 211 #[.int .i32 r] w fun e w'=>e=.returned (.bool (decide (GenR r)))∧w=w':=by
 by_cases h:32≤r
 ·by_cases h2:r≤126
  ·rw[show decide (GenR r)=true from decide_eq_true ⟨h,h2⟩]
   go_enter Tryz.func211,Tryz.ntmps211
   go_wp2
   go_ret
   exact⟨ret_bool (by first |rfl | (simp;done) | (simp;omega)),rfl⟩
  ·rw[show decide (GenR r)=false from decide_eq_false (fun hh=>h2 hh.2)]
   go_enter Tryz.func211,Tryz.ntmps211
   go_wp2
   go_ret
   exact⟨ret_bool (by first |rfl | (simp;done) | (simp;omega)),rfl⟩
 ·rw[show decide (GenR r)=false from decide_eq_false (fun hh=>h hh.1)]
  go_enter Tryz.func211,Tryz.ntmps211
  go_wp2
  go_ret
  exact⟨ret_bool (by first |rfl | (simp;done) | (simp;omega)),rfl⟩
theorem print_any (r:Int)(w:World):
 Calls Tryz.prog 209 #[.int .i32 r] w fun e w'=>e=.returned (.bool (decide (PrintR r)))∧w=w':=by
 obtain⟨k,hk⟩:=nm_ (decide (PrintR r))
 rw[hk]
 have HK:=hd_ hk
 clear hk
 go_enter Tryz.func209,Tryz.ntmps209
 go_wp2
 all_goals go_ret
 all_goals refine⟨ret_bool ?_,rfl⟩
 all_goals rw[←HK.out]
 all_goals clear HK
 all_goals first |exact(decide_eq_true (by simp_all [PrintR])).symm | (simp only[beq_eq_false_iff_ne,ne_eq] at*;exact(decide_eq_false (by unfold PrintR;omega)).symm)
end Go.Proofs.YtkjkhoglkpepiaaGreatDoor.txc
namespace Go.Proofs.YtkjkhoglkpepiaaGreatDoor.txc
open Go.RowKit tlvc
theorem heap_set {w:World}{b:Nat}{c:Array Value}{T:TypeId}{fr:Nat × Nat}(h:w.heap[b]? =some (.cells c T fr))(j:Nat)(v:Value):(w.setCell ⟨b,j,none⟩ v).heap[b]? =some (.cells (c.setIfInBounds j v) T fr):=by
 have hlt:b<w.heap.size:=(Array.getElem?_eq_some_iff.1 h).1
 simp only[World.setCell,Array.getElem?_modify,if_pos,h,Option.map_some,Option.isSome_none,Bool.false_eq_true,if_false]
theorem heap_set7 {w:World}{b:Nat}{T:TypeId}{fr:Nat × Nat}{x0 x1 x2 x3 x4 x5 x6:Value}(h:w.heap[b]? =some (.cells #[x0,x1,x2,x3,x4,x5,x6] T fr))(v0 v1 v2 v3 v4 v5 v6:Value):
 (((((((w.setCell ⟨b,0,none⟩ v0).setCell ⟨b,1,none⟩ v1).setCell ⟨b,2,none⟩ v2).setCell ⟨b,3,none⟩ v3).setCell ⟨b,4,none⟩ v4).setCell ⟨b,5,none⟩ v5).setCell ⟨b,6,none⟩ v6).heap[b]? =some (.cells #[v0,v1,v2,v3,v4,v5,v6] T fr):=by
 have h0:=heap_set h 0 v0
 have h1:=heap_set h0 1 v1
 have h2:=heap_set h1 2 v2
 have h3:=heap_set h2 3 v3
 have h4:=heap_set h3 4 v4
 have h5:=heap_set h4 5 v5
 have h6:=heap_set h5 6 v6
 rw[h6];simp
theorem below_set7 {B b:Nat}{a w:World}(h:Below B a w)(hb:B≤b)(v0 v1 v2 v3 v4 v5 v6:Value):
 Below B a (((((((w.setCell ⟨b,0,none⟩ v0).setCell ⟨b,1,none⟩ v1).setCell ⟨b,2,none⟩ v2).setCell ⟨b,3,none⟩ v3).setCell ⟨b,4,none⟩ v4).setCell ⟨b,5,none⟩ v5).setCell ⟨b,6,none⟩ v6):=
 ((((((h.setCell hb _).setCell hb _).setCell hb _).setCell hb _).setCell hb _).setCell hb _).setCell hb _
theorem bys_new {w:World}{ys:List Int}{c:Array Value}{e:TypeId}(hf:Fit ys)(hc:c=(vals ys).toArray):Bys (w.alloc (.cells c e)) (some ⟨w.heap.size,0,none⟩) ys.length ys:=by
 subst hc
 refine⟨rfl,hf,fun _=>⟨_,_,rfl,by simp,fun j hj=>?_⟩⟩
 rw[Nat.zero_add,World.cell?_alloc_mark]
 simp[vals,List.getD_eq_getElem?_getD,List.getElem?_eq_getElem hj]
theorem bys_new1 (w:World){a:Int}(e:TypeId)(h:0≤a∧a≤255):Bys (w.alloc (.cells #[.int .u8 a] e)) (some ⟨w.heap.size,0,none⟩) 1 [a]:=
 bys_new (ys:=[a]) (fun x hx=>by simp at hx;subst hx;exact h) rfl
theorem bys_new2 (w:World){a b:Int}(e:TypeId)(h:0≤a∧a≤255)(k:0≤b∧b≤255):Bys (w.alloc (.cells #[.int .u8 a,.int .u8 b] e)) (some ⟨w.heap.size,0,none⟩) 2 [a,b]:=
 bys_new (ys:=[a,b]) (fun x hx=>by simp at hx;rcases hx with rfl |rfl<;>assumption) rfl
theorem own_next {w wr w':World}{v v':Value}{xs ys zs:List Int}{n:Nat}{c:Array Value}{e:TypeId}(hb:Below w.heap.size w wr)(hown:wr.ownsRow w.heap.size 5 1 v xs.length (vals xs))(hz:zs=xs++ys)(hn:n=xs.length+ys.length)
 (h:w'.ownsRow w.heap.size 5 1 v' n (vals xs++vals ys)) (hg:(wr.alloc (.cells c e)).grownBy w' v.ownBlock):
 w'.ownsRow w.heap.size 5 1 v' zs.length (vals zs)∧Below w.heap.size w w':=by
 subst hz hn
 rw[←vals_append] at h
 rw[List.length_append]
 exact⟨h,(hb.alloc hb.size _).grown hg (by have:=hb.size;simp;omega) fun j hj=>(hown.lt j hj).1⟩
end Go.Proofs.YtkjkhoglkpepiaaGreatDoor.txc
namespace Go.Proofs.YtkjkhoglkpepiaaGreatDoor.txc
open Go.RowKit txm tlvc
theorem all_any (p:Int→Bool)(f:Nat)(s:ByteArray)(w:World)(hs:s.size≤9223372036854775807)
 (hent: ∀args w,(callFunc f args).run Tryz.prog w=.ok (.enter f args) w)
 (hf: ∀(r:Int) (w:World),Calls Tryz.prog f #[.int .i32 r] w fun e w'=>e=.returned (.bool (p r))∧w=w'):
 Calls Tryz.prog 208 #[.string s,.func (.func f) #[] #[]] w fun e w'=>e=.returned (.bool ((runes s).all p))∧Below w.heap.size w w':=by
 go_enter Tryz.func208,Tryz.ntmps208
 go_wp2_with fail
 go_loopw [6] (fun _ wr=>∃pos n:Nat,wr=w.iter s pos∧(runesF s n pos).all p=(runes s).all p∧s.size≤pos+n) (fun _ wr=>s.size - wr.iterPos w.heap.size)
 case atStart=>exact⟨0,s.size,rfl,rfl,by omega⟩
 case round=>
  obtain⟨pos,n,rfl,hc,hb⟩:=hrel
  have hbel:Below w.heap.size w (w.iter s pos):=(br_ _ w).alloc (lr_ _) _
  by_cases hp:pos<s.size
  ·have hnx: ∀ty,(Instr.next (.pointer (some ⟨w.heap.size,0,none⟩)) true ty).run Tryz.prog (w.iter s pos)=_:=fun ty=>run_next_any w s pos ty hp
   have hwd:=width_pos s pos hp
   obtain⟨m,rfl⟩: ∃m,n=m+1:=⟨n - 1,by omega⟩
   simp only[runesF,hp,if_true,List.all_cons] at hc
   obtain⟨r,hr⟩: ∃r:Nat,(Utf8.decode s pos).1=r:=⟨_,rfl⟩
   obtain⟨d,hd⟩: ∃d:Nat,(Utf8.decode s pos).2=d:=⟨_,rfl⟩
   rw[hr,hd] at hnx hc
   rw[hd] at hwd
   have HC:=hd_ hc
   clear hc hr hd
   go_wp2_with fail
   refine(hf _ _).mono ?_
   rintro e w' ⟨rfl,rfl⟩
   by_cases hpr:p (r:Int)=true
   ·have HC2:(runesF s m (pos+d)).all p=(runes s).all p:=by rw[←HC.out,hpr];rfl
    have HP:=hd_ HC2
    clear HC HC2
    go_wp2
    go_roundw
    case rel=>exact⟨pos+d,m,rfl,HP.out,by omega⟩
    case measure=>simp;omega
   ·have hpf:p (r:Int)=false:=by simpa using hpr
    have HC2:(runes s).all p=false:=by rw[←HC.out,hpf];rfl
    have HP:=hd_ HC2
    clear HC HC2 hpr
    go_wp2
    go_ret
    exact⟨ret_bool HP.out.symm,(br_ _ w).alloc (lr_ _) _⟩
  ·have hnx: ∀ty,(Instr.next (.pointer (some ⟨w.heap.size,0,none⟩)) true ty).run Tryz.prog (w.iter s pos)=_:=fun ty=>run_next_end w s pos ty hp
   have HC2:(runes s).all p=true:=by rw[←hc,runesF_end s n pos hp];rfl
   have HP:=hd_ HC2
   clear HC2 hc
   go_wp2
   go_ret
   exact⟨ret_bool HP.out.symm,hbel⟩
end Go.Proofs.YtkjkhoglkpepiaaGreatDoor.txc
namespace Go.Proofs.YtkjkhoglkpepiaaGreatDoor.txc
open Go.RowKit tlvc
end Go.Proofs.YtkjkhoglkpepiaaGreatDoor.txc
namespace Go.Proofs.YtkjkhoglkpepiaaGreatDoor.txc
open Go.RowKit txm tlvc
end Go.Proofs.YtkjkhoglkpepiaaGreatDoor.txc
