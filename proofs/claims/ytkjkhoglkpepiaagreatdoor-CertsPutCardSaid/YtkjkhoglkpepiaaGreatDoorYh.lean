/- The program's asPut, Get and GetPrinc. The program's GetPrin -/
import Derived.Test.YtkjkhoglkpepiaaGreatDoorYg
import Derived.Test.YtkjkhoglkpepiaaGreatDoorYf
import Derived.Deep.RegionHeld3
import Derived.Lib.QuietBelow
import Derived.BigQuiet
set_option maxRecDepth 100000
set_option maxHeartbeats 8000000
set_option linter.unusedVariables false
set_option linter.unusedSimpArgs false
namespace Go.Proofs.YtkjkhoglkpepiaaGreatDoor.nmc
open Go.RowKit tlvc tlvd ndc txc txm intc intm
def backN (l:List At)(n:Nd):Bool:=match nameF l with |none=>false |some m=>sameN m n
theorem getN_back (n:Nd):getN n=if backN (toldN n) n=true then some (toldN n) else none:=by
 unfold getN backN
 rw[nameF_of]
 cases h:rightN (toldN n)
 ·simp
 ·simp
theorem asPutN_any (B C:Nat→Prop)(n:Nd)(A:Option Addr)(len cap:Nat)(xs:List At)(c0 c1 c2:Value)(w:World)(hn:NdC B w n c0 c1 c2)(hl:xs.length=len)(hL:Lst atE C w A xs)(hc:len≤cap)(hm:cap≤maxLen)(hT:Tabs w):
 Calls Tryz.prog 94 #[.agg #[c0,c1,c2],.slice A len cap,.func (.func 21) #[] #[]] w fun e w'=>Below w.heap.size w w'∧e=.returned (if backN xs n=true then .tuple #[.slice A len cap,.int .i64 0] else .tuple #[.slice none 0 0,.int .i64 91]):=by
 obtain⟨t,A1,l1,k1,K1,m1,n1,rfl,rfl,rfl⟩:=hn.shape
 have hent:=enters_of Tryz.func21 (by kernel_rfl) rfl
 obtain⟨W0,hW0⟩:=nm_ (w.alloc (.cells #[.int .u8 t,.slice A1 l1 k1,.slice K1 m1 n1] 43))
 have hb0:Below w.heap.size w W0:=by rw[←hW0];exact below_new _ _
 have q0:W0.heap[w.heap.size]? =some (.cells #[.int .u8 t,.slice A1 l1 k1,.slice K1 m1 n1] 43):=by rw[←hW0];exact heap_new_ _ _
 have hput:=put_any C A len cap xs W0 hl (hL.below hb0) hc hm (hT.below hb0)
 have hbk:backN xs n=match nameF xs with |none=>false |some m=>sameN m n:=rfl
 obtain⟨r,hr⟩:=nm_ (nameF xs)
 rw[hr] at hput hbk
 obtain⟨bk,hbk0⟩:=nm_ (backN xs n)
 rw[hbk0] at hbk⊢
 have hal:=fun(m:Nd) (v:Value) (W:World) (hW:Below w.heap.size w W) (hv:NdV (fun _=>True) W m v)=>alike_of (szN m) m n (lr_ _) v (.agg #[.int .u8 t,.slice A1 l1 k1,.slice K1 m1 n1]) W hv ⟨_,_,_,rfl,NdC.below hW _ _ _ _ hn⟩
 have HP:=hd_ hput
 have HA:=hd_ hal
 have HB:=hd_ (ai_ hb0 q0)
 have HK:=hd_ hbk
 clear hput hal hb0 q0 hbk hr hbk0 hn hL hl hc hm hT
 go_enter Tryz.func94,Tryz.ntmps94
 go_wp2_with fail
 refine HP.out.mono ?_
 rintro e w1 hpost
 cases r with
 |none=>
  obtain⟨hb1,hpost⟩:=hpost
  have hpost:e=_:=hpost
  subst hpost
  have hK:bk=false:=HK.out
  subst hK
  have HF:=hd_ (below_then (below_then HB.out.1 hb1 (lr_ _)) (below_new w1 (.cells #[.int .u8 0,.slice none 0 0,.slice none 0 0] 43)) (lr_ _))
  clear hb1 HP HA HB HK
  go_wp2
  go_ret2
  exact⟨HF.out,rfl⟩
 |some m=>
  obtain⟨hb1,t2,A2,l2,k2,K2,m2,n2,rfl,hn2⟩:=hpost
  obtain⟨W2,hW2⟩:=nm_ (w1.alloc (.cells #[.int .u8 t2,.slice A2 l2 k2,.slice K2 m2 n2] 43))
  have hb12:Below w1.heap.size w1 W2:=by rw[←hW2];exact below_new _ _
  have p2:W2.heap[w1.heap.size]? =some (.cells #[.int .u8 t2,.slice A2 l2 k2,.slice K2 m2 n2] 43):=by rw[←hW2];exact heap_new_ _ _
  have hb2:=below_then hb1 hb12 (lr_ _)
  have hbw:=below_then HB.out.1 hb2 (lr_ _)
  obtain⟨x0,x1,x2⟩:=box_nd hb2 HB.out.2
  obtain⟨y0,y1,y2⟩:=box_nd (br_ _ W2) p2
  have hcall:=HA.out m _ W2 hbw ⟨_,_,_,rfl,NdC.mono (fun _ _=>trivial) _ _ _ _ (NdC.below hb12 _ _ _ _ hn2)⟩
  have hK:bk=sameN m n:=HK.out
  rw[←hK] at hcall
  have HC:=hd_ hcall
  have HW:=hd_ hbw
  clear hcall hbw hb1 hb2 hb12 p2 hn2 hK HP HA HB HK
  go_wp2_with fail
  refine HC.out.mono ?_
  rintro e w3 ⟨rfl,hb3⟩
  have HF:=hd_ (below_then HW.out hb3 (lr_ _))
  clear hb3 HC HW x0 x1 x2 y0 y1 y2
  cases bk
  ·go_wp2
   go_ret2
   exact⟨HF.out,rfl⟩
  ·go_wp2
   go_ret2
   exact⟨HF.out,rfl⟩
def GetPost (w:World)(r:Option (List At))(e:Ending)(w':World):Prop:=
 Below w.heap.size w w'∧match r with
  |none=>e=.returned (.tuple #[.slice none 0 0,.int .i64 91])
  |some l=>∃A c,e=.returned (.tuple #[.slice A l.length c,.int .i64 0])∧l.length≤c∧c≤maxLen∧Lst atE (fun _=>True) w' A l
end Go.Proofs.YtkjkhoglkpepiaaGreatDoor.nmc
namespace Go.Proofs.YtkjkhoglkpepiaaGreatDoor.nmc
open Go.RowKit tlvc tlvd ndc txc txm intc intm
def GetPPost (w:World)(r:Option Pr)(e:Ending)(w':World):Prop:=
 Below w.heap.size w w'∧match r with
  |none=>e=.returned (.tuple #[.agg #[.string ⟨#[]⟩,.slice none 0 0],.int .i64 91])
  |some p=>∃s A l c,e=.returned (.tuple #[.agg #[.string s,.slice A l c],.int .i64 0])∧PrC (fun _=>True) w' p (.string s) (.slice A l c)
theorem PrC.on {B B':Nat→Prop}{w w':World}{p:Pr}{c0 c1:Value}(h:PrC B w p c0 c1)(hs:w.heap.size≤w'.heap.size)(hk: ∀g,B g→g<w.heap.size→w'.heap[g]? =w.heap[g]?)(hB: ∀g,B g→g<w.heap.size→B' g):PrC B' w' p c0 c1:=by
 obtain⟨A,c,h0,h1,h2,h3,h4,h5⟩:=h
 exact⟨A,c,h0,h1,h2,h3,h4.on hs hk hB,h5⟩
end Go.Proofs.YtkjkhoglkpepiaaGreatDoor.nmc
namespace Go.Proofs.YtkjkhoglkpepiaaGreatDoor.nmc
open Go.RowKit tlvc tlvd ndc txc txm intc intm
end Go.Proofs.YtkjkhoglkpepiaaGreatDoor.nmc
namespace Go.Proofs.YtkjkhoglkpepiaaGreatDoor.nmc
open Go.RowKit tlvc tlvd ndc txc txm intc intm
theorem NPost0.anyS {S:Nat→Prop}{w:World}{r:Option Nd}{e:Ending}{w':World}(h:NPost0 S w r e w'):Below w.heap.size w w'∧∃t A la ca K lk ck er,e=.returned (.tuple #[.agg #[.int .u8 t,.slice A la ca,.slice K lk ck],.int .i64 er])∧er=codeN r∧NdC S w' (r.getD zn) (.int .u8 t) (.slice A la ca) (.slice K lk ck):=by
 obtain⟨hb,h⟩:=h
 refine⟨hb,?_⟩
 cases r with
 |none=>exact⟨_,_,_,_,_,_,_,_,h,rfl,ndC_leaf (by omega) (lr_ _) (Nat.zero_le _) (Bys.nil_ _ _) (fun h=>absurd h (by omega))⟩
 |some n=>
  obtain⟨t,A,la,ca,K,lk,ck,e,hn⟩:=h
  exact⟨t,A,la,ca,K,lk,ck,_,e,rfl,hn⟩
def codeL (r:Option (List At)):Int:=if r.isSome=true then 0 else 91
def codeP (r:Option Pr):Int:=if r.isSome=true then 0 else 91
theorem GetPost.any {w:World}{r:Option (List At)}{e:Ending}{w':World}(h:GetPost w r e w'):Below w.heap.size w w'∧∃A l c er,e=.returned (.tuple #[.slice A l c,.int .i64 er])∧er=codeL r∧(r.getD []).length=l∧l≤c∧c≤maxLen∧Lst atE (fun _=>True) w' A (r.getD []):=by
 obtain⟨hb,h⟩:=h
 refine⟨hb,?_⟩
 cases r with
 |none=>exact⟨_,_,_,_,h,rfl,rfl,lr_ _,Nat.zero_le _,Lst.nil _ _ _⟩
 |some n=>
  obtain⟨A,c,e,h1,h2,h3⟩:=h
  exact⟨A,_,c,_,e,rfl,rfl,h1,h2,h3⟩
theorem GetPPost.any {w:World}{r:Option Pr}{e:Ending}{w':World}(h:GetPPost w r e w'):Below w.heap.size w w'∧∃s A l c er,e=.returned (.tuple #[.agg #[.string s,.slice A l c],.int .i64 er])∧er=codeP r∧PrC (fun _=>True) w' (r.getD ⟨⟨#[]⟩,[]⟩) (.string s) (.slice A l c):=by
 obtain⟨hb,h⟩:=h
 refine⟨hb,?_⟩
 cases r with
 |none=>exact⟨_,_,_,_,_,h,rfl,none,0,rfl,rfl,lr_ _,Nat.zero_le _,Lst.nil _ _ _,Nat.zero_le _⟩
 |some p=>
  obtain⟨s,A,l,c,e,h1⟩:=h
  exact⟨s,A,l,c,_,e,rfl,h1⟩
end Go.Proofs.YtkjkhoglkpepiaaGreatDoor.nmc
