/- Handles' bytes, and bytes' numbers: the program's. -/
import Derived.Test.YtconbejjagcnkaaGreatDoorYf
import Derived.Deep.LoopGhost
set_option maxRecDepth 100000
set_option maxHeartbeats 8000000
set_option linter.unusedVariables false
set_option linter.unusedSimpArgs false
namespace Go.Proofs.YtconbejjagcnkaaGreatDoor.vtc
open Go.RowKit tlvc tlvd ndc txc txm intc intm nmc
def hbF (n:Int):List Int:=if 0≤n∧n<281474976710656 then [193,94,n/ 1099511627776%256,n/ 4294967296%256,n/ 16777216%256,n/ 65536%256,n/ 256%256,n%256] else []
def numF (b:List Int):Option Int:=if b.length=8∧b.getD 0 0=193∧b.getD 1 0=94 then some (((((b.getD 2 0*256+b.getD 3 0)*256+b.getD 4 0)*256+b.getD 5 0)*256+b.getD 6 0)*256+b.getD 7 0) else none
theorem hbF_yes {n:Int}(h:0≤n∧n<281474976710656):hbF n=[193,94,n/ 1099511627776%256,n/ 4294967296%256,n/ 16777216%256,n/ 65536%256,n/ 256%256,n%256]:=if_pos h
theorem hbF_len {n:Int}(h:0≤n∧n<281474976710656):(hbF n).length=8:=by rw[hbF_yes h];rfl
theorem hbF_fit (n:Int):Fit (hbF n):=by
  unfold hbF
  split
  · intro x hx
    simp only[List.mem_cons,List.not_mem_nil,or_false] at hx
    rcases hx with rfl |rfl |rfl |rfl |rfl |rfl |rfl |rfl<;>omega
  · intro x hx;simp at hx
theorem num_hb {n:Int}(h:0≤n∧n<281474976710656):numF (hbF n)=some n:=by
  rw[hbF_yes h]
  unfold numF
  rw[if_pos ⟨rfl,rfl,rfl⟩]
  simp only[List.getD_cons_succ,List.getD_cons_zero]
  congr 1
  omega
theorem eight {b:List Int}(h:b.length=8): ∃a0 a1 a2 a3 a4 a5 a6 a7,b=[a0,a1,a2,a3,a4,a5,a6,a7]:=by
  match b,h with
  | [a0,a1,a2,a3,a4,a5,a6,a7],_=>exact⟨a0,a1,a2,a3,a4,a5,a6,a7,rfl⟩
theorem num_some {b:List Int}{n:Int}(hf:Fit b)(h:numF b=some n):(0≤n∧n<281474976710656)∧hbF n=b:=by
  unfold numF at h
  split at h
  · rename_i hc
    obtain⟨h8,h0,h1⟩:=hc
    obtain⟨a0,a1,a2,a3,a4,a5,a6,a7,rfl⟩:=eight h8
    simp only[List.getD_cons_succ,List.getD_cons_zero] at h h0 h1
    have e:=Option.some.inj h
    have f2:=hf a2 (by simp)
    have f3:=hf a3 (by simp)
    have f4:=hf a4 (by simp)
    have f5:=hf a5 (by simp)
    have f6:=hf a6 (by simp)
    have f7:=hf a7 (by simp)
    have hr:0≤n∧n<281474976710656:=by omega
    refine⟨hr,?_⟩
    rw[hbF_yes hr,h0,h1]
    have g7:n%256=a7:=by omega
    have g6:n/ 256%256=a6:=by omega
    have g5:n/ 65536%256=a5:=by omega
    have g4:n/ 16777216%256=a4:=by omega
    have g3:n/ 4294967296%256=a3:=by omega
    have g2:n/ 1099511627776%256=a2:=by omega
    rw[g2,g3,g4,g5,g6,g7]
  · cases h
theorem bytes_yes (n:Int)(w:World)(h:0≤n∧n<281474976710656):Calls Tryz.prog 35 #[.int .i64 n] w fun e w'=>e=.returned (.slice (some ⟨w.heap.size,0,none⟩) 8 8)∧w'=w.alloc (.cells (vals (hbF n)).toArray 5):=by
  have hu:IntKind.u64.wrap n=n:=by simp[IntKind.wrap,IntKind.signed,IntKind.bits];omega
  go_enter Tryz.func35,Tryz.ntmps35
  go_wp2_with fail
  go_ret
  refine⟨rfl,?_⟩
  have e1:n/ 1099511627776%256=n/ 1099511627776:=by omega
  rw[hbF_yes h,e1]
  rfl
theorem bytes_no (n:Int)(w:World)(hi: -9223372036854775808≤n∧n≤9223372036854775807)(h: ¬(0≤n∧n<281474976710656)):Calls Tryz.prog 35 #[.int .i64 n] w fun e w'=>e=.returned (.slice none 0 0)∧w'=w:=by
  obtain⟨u,hu,hne⟩: ∃u,IntKind.u64.wrap n=u∧(u/ 281474976710656 !=0)=true:=by
    refine⟨_,rfl,?_⟩
    have e:IntKind.u64.wrap n=if n<0 then n+18446744073709551616 else n:=by
      simp[IntKind.wrap,IntKind.signed,IntKind.bits]
      split<;>omega
    rw[e,bne_iff_ne]
    split<;>omega
  go_enter Tryz.func35,Tryz.ntmps35
  go_wp2
  go_ret
  exact⟨rfl,rfl⟩
def accF (b:List Int):Nat→Int
  |0=>0
  |i+1=>accF b i*256+b.getD (2+i) 0
theorem accF_bd {b:List Int}(hf:Fit b): ∀i,0≤accF b i∧accF b i<256^i
  |0=>by unfold accF;omega
  |i+1=>by
   have:=accF_bd hf i
   have h:=hf.getD (2+i)
   unfold accF
   rw[Int.pow_succ]
   omega
theorem pow_le6 {i:Nat}(h:i≤5):(256:Int)^i≤1099511627776:=by
  match i,h with
  |0,_=>decide
  |1,_=>decide
  |2,_=>decide
  |3,_=>decide
  |4,_=>decide
  |5,_=>decide
theorem numF_yes {b:List Int}(h:b.length=8∧b.getD 0 0=193∧b.getD 1 0=94):numF b=some (accF b 6):=by
  unfold numF
  rw[if_pos h]
  congr 1
  simp only[accF,Nat.reduceAdd]
  omega
theorem numF_no {b:List Int}(h: ¬(b.length=8∧b.getD 0 0=193∧b.getD 1 0=94)):numF b=none:=if_neg h
def NumPost (w:World)(r:Option Int)(e:Ending)(w':World):Prop:=e=.returned (.tuple #[.int .i64 (r.getD (-1)),.bool r.isSome])∧w'=w
theorem number_yes (b off c:Nat)(xs:List Int)(w:World)(hb:Bys w (some ⟨b,off,none⟩) 8 xs)(hc:8≤c)(hm:c≤9223372036854775807)(h0:xs.getD 0 0=193)(h1:xs.getD 1 0=94):
    Calls Tryz.prog 56 #[.slice (some ⟨b,off,none⟩) 8 c] w (NumPost w (numF xs)):=by
  obtain⟨b',off',e,_,hcell⟩:=hb.2.2 (by omega)
  cases e
  have hfit:=hb.fit
  rw[numF_yes ⟨hb.len,h0,h1⟩]
  have c0:=hcell 0 (by omega)
  have c1:=hcell 1 (by omega)
  rw[h0,Nat.add_zero] at c0
  rw[h1] at c1
  have HC:=Lib.hid hcell
  have HF:=Lib.hid hfit
  obtain⟨R,hR⟩: ∃x,accF xs 6=x:=⟨_,rfl⟩
  rw[hR]
  have HR:=Lib.hid hR
  clear hcell hfit hb hR
  go_enter Tryz.func56,Tryz.ntmps56
  go_wp2_with fail
  go_loopg [4,25] 8 (fun gk s4 s25 wx=>∃(i:Nat),s4=.int .i64 (accF xs i)∧s25=.int .i64 i∧i≤6∧7 - i≤gk∧wx=w)
  case atStart=>exact⟨0,rfl,rfl,by omega,by omega,rfl⟩
  case round=>
    obtain⟨i,rfl,rfl,hi,hgk,rfl⟩:=hrel
    by_cases hlt:i<6
    · have hltz:(i:Int)<6:=by omega
      obtain⟨gk',rfl⟩: ∃g',gk=g'+1:=⟨gk - 1,by omega⟩
      have e1:wr.cell? ⟨b,off+2+i,none⟩=some (.int .u8 (xs.getD (2+i) 0)):=by rw[Nat.add_assoc];exact HC.out (2+i) (by omega)
      have hx:=HF.out.getD (2+i)
      have hbd:=accF_bd HF.out i
      have hp:=pow_le6 (show i≤5 by omega)
      have hs:accF xs (i+1)=accF xs i*256+xs.getD (2+i) 0:=rfl
      obtain⟨x,hxe⟩: ∃x,xs.getD (2+i) 0=x:=⟨_,rfl⟩
      obtain⟨a,hae⟩: ∃x,accF xs i=x:=⟨_,rfl⟩
      rw[hxe] at e1 hx hs
      rw[hae] at hbd hs⊢
      have hw:=IntWalk.i64_in (a*256) (by omega)
      have hor:=or_i64 8 (by decide) (a*256) x (by unfold I64;omega) (by omega) (by omega) (by omega)
      have HS:=Lib.hid hs
      have HG:=Lib.hid hgk
      clear hs hxe hae hbd hp hgk
      go_wp2
      go_roundg gk'
      case measure=>omega
      case rel=>exact⟨i+1,by rw[HS.out],by go_num,by omega,by have:=HG.out;omega,rfl⟩
    · have hltz: ¬(i:Int)<6:=by omega
      obtain rfl:i=6:=by omega
      have hR:=HR.out
      rw[hR]
      go_wp2
      go_ret2
      exact⟨rfl,rfl⟩
theorem number_any (A:Option Addr)(n c:Nat)(xs:List Int)(w:World)(hb:Bys w A n xs)(hc:n≤c)(hm:c≤maxLen):
    Calls Tryz.prog 56 #[.slice A n c] w (NumPost w (numF xs)):=by
  have hm9:c≤9223372036854775807:=by unfold maxLen at hm;omega
  by_cases h8:n=8
  · subst h8
    obtain⟨b,off,rfl,_,hcell⟩:=hb.2.2 (by omega)
    by_cases h0:xs.getD 0 0=193
    · by_cases h1:xs.getD 1 0=94
      · exact number_yes b off c xs w hb hc hm9 h0 h1
      · rw[numF_no fun h=>h1 h.2.2]
        have c0:=hcell 0 (by omega)
        have c1:=hcell 1 (by omega)
        rw[h0,Nat.add_zero] at c0
        obtain⟨x,hx⟩: ∃x,xs.getD 1 0=x:=⟨_,rfl⟩
        rw[hx] at c1 h1
        clear hcell hb h0 hx
        go_enter Tryz.func56,Tryz.ntmps56
        go_wp2
        go_ret2
        exact⟨rfl,rfl⟩
    · rw[numF_no fun h=>h0 h.2.1]
      have c0:=hcell 0 (by omega)
      rw[Nat.add_zero] at c0
      obtain⟨x,hx⟩: ∃x,xs.getD 0 0=x:=⟨_,rfl⟩
      rw[hx] at c0 h0
      clear hcell hb hx
      go_enter Tryz.func56,Tryz.ntmps56
      go_wp2
      go_ret2
      exact⟨rfl,rfl⟩
  · rw[numF_no fun h=>h8 (hb.len.symm.trans h.1)]
    have h8z: ¬(n:Int)=8:=by omega
    clear hb
    go_enter Tryz.func56,Tryz.ntmps56
    go_wp2
    go_ret2
    exact⟨rfl,rfl⟩
def BysPost (w:World)(xs:List Int)(e:Ending)(w':World):Prop:=∃A c,e=.returned (.slice A xs.length c)∧Bys w' A xs.length xs∧(xs.length≤c∧c≤maxLen)∧Below w.heap.size w w'
theorem hbF_none {n:Int}(h: ¬(0≤n∧n<281474976710656)):hbF n=[]:=if_neg h
theorem nil_post (w:World):BysPost w [] (.returned (.slice none 0 0)) w:=⟨none,0,rfl,Bys.nil_ _ _,⟨Nat.le_refl _,Nat.zero_le _⟩,Below.refl _ _⟩
theorem hb_bys (n:Int)(w:World)(h:0≤n∧n<281474976710656):Bys (w.alloc (.cells (vals (hbF n)).toArray 5)) (some ⟨w.heap.size,0,none⟩) 8 (hbF n):=
  ⟨hbF_len h,hbF_fit n,fun _=>⟨w.heap.size,0,rfl,by simp,fun j hj=>by
    rw[Nat.zero_add,Lib.cell_of_heap (heap_new_ _ _)]
    simp[vals,List.getD_eq_getElem?_getD,List.getElem?_eq_getElem (show j< (hbF n).length by rw[hbF_len h];exact hj)]⟩⟩
end Go.Proofs.YtconbejjagcnkaaGreatDoor.vtc
