/- A slice of bytes that reads as a text; the number that its f A slice of bytes that reads as a text; the number that its f -/
import Derived.Test.YtkjkhoglkpepiaaGreatDoorKa
import Derived.Test.YtkjkhoglkpepiaaGreatDoorProg
import Derived.Lib.ValidAsc
import Derived.Lib.Walk
import Derived.Lib.Endian
import Derived.Lib.EndianBits
import Derived.RegionTactic
import Derived.Deep.Draws
import Derived.Deep.QuietTactic
import Derived.Test.YtkjkhoglkpepiaaGreatDoorXc
import Derived.Shelf.Unicode.WordAny
import Derived.Shelf.Unicode.ValidAny
set_option linter.unusedVariables false
set_option linter.unusedSimpArgs false
namespace Go.Proofs.YtkjkhoglkpepiaaGreatDoor.tlvc
open Go.RowKit
def TB (w:World)(A:Option Addr)(n:Nat)(t:ByteArray):Prop:=
 t.size=n∧(0<n→∃b off,A=some ⟨b,off,none⟩∧b<w.heap.size∧∀j,j<n→w.cell? ⟨b,off+j,none⟩=some (.int .u8 ((t.get! j).toNat:Int)))
theorem TB.of_bys {w:World}{A:Option Addr}{n:Nat}{xs:List Int}(h:Bys w A n xs):TB w A n (strOfNums xs):=by
 refine⟨by rw[strOfNums_size];exact h.1,fun hn=>?_⟩
 obtain⟨b,off,e,hb,hc⟩:=h.2.2 hn
 refine⟨b,off,e,hb,fun j hj=>?_⟩
 rw[hc j hj]
 have hf:=h.2.1.getD j
 have e2:(strOfNums xs).get! j=UInt8.ofNat (xs.getD j 0).toNat:=by
  rw[←Lib.getD_get!',strOfNums_data,List.getD_eq_getElem?_getD,List.getD_eq_getElem?_getD,List.getElem?_map]
  cases xs[j]? <;>rfl
 have e3:(((strOfNums xs).get! j).toNat:Int)=xs.getD j 0:=by
  rw[e2,UInt8.toNat_ofNat']
  omega
 rw[e3]
theorem TB.below {w w':World}{A:Option Addr}{n:Nat}{t:ByteArray}(h:TB w A n t)(hb:Below w.heap.size w w'):TB w' A n t:=
 ⟨h.1,fun hn=>by
   obtain⟨b,off,e,hl,hc⟩:=h.2 hn
   exact⟨b,off,e,Nat.lt_of_lt_of_le hl hb.size,fun j hj=>(hb.cell (p:=⟨b,off+j,none⟩) hl).trans (hc j hj)⟩⟩
theorem get_cut (t:ByteArray)(k j:Nat):(t.extract k t.size).get! j=t.get! (k+j):=by
 rw[←Lib.getD_get!',←Lib.getD_get!',Lib.ext_list,List.getD_eq_getElem?_getD,List.getD_eq_getElem?_getD,List.getElem?_drop]
theorem TB.cut {w:World}{A:Option Addr}{n:Nat}{t:ByteArray}(h:TB w A n t){k:Nat}(hk:k≤n):TB w (if n=k then A else A.map (·.add k)) (n - k) (t.extract k t.size):=by
 refine⟨by rw[Lib.ext_size,h.1],fun hn=>?_⟩
 obtain⟨b,off,rfl,hb,hc⟩:=h.2 (by omega)
 rw[if_neg (by omega)]
 refine⟨b,off+k,by simp[Addr.add_lit],hb,fun j hj=>?_⟩
 rw[Nat.add_assoc,hc (k+j) (by omega),get_cut]
end Go.Proofs.YtkjkhoglkpepiaaGreatDoor.tlvc
namespace Go.Proofs.YtkjkhoglkpepiaaGreatDoor.txc
open Go.RowKit tlvc
theorem TB.tail {w:World}{b off n:Nat}{t:ByteArray}(h:TB w (some ⟨b,off,none⟩) n t){k:Nat}(hk:k≤n):TB w (some ⟨b,off+k,none⟩) (n - k) (t.extract k t.size):=by
 have:=h.cut hk
 refine⟨this.1,fun hn=>?_⟩
 rw[if_neg (by omega)] at this
 obtain⟨b',off',e,r⟩:=this.2 hn
 exact⟨b',off',by rw[←e];simp[Addr.add_lit],r⟩
end Go.Proofs.YtkjkhoglkpepiaaGreatDoor.txc
set_option maxRecDepth 1000000
set_option maxHeartbeats 40000000
set_option linter.unusedVariables false
set_option linter.unusedSimpArgs false
namespace Go.Proofs.YtkjkhoglkpepiaaGreatDoor.txc
open Go.RowKit tlvc
def leW (t:ByteArray):Nat:=Lib.leNat [t.get! 0,t.get! 1,t.get! 2,t.get! 3,t.get! 4,t.get! 5,t.get! 6,t.get! 7]
theorem wordB_any (A:Option Addr)(n c:Nat)(t:ByteArray)(w:World)(h:TB w A n t)(hn:8≤n):
 Calls Tryz.prog 215 #[.slice A n c] w fun e w'=>e=.returned (.int .u64 (leW t))∧∃q,w'=w.drewN q:=by
 obtain⟨b,off,rfl,hb,hc⟩:=h.2 (by omega)
 unfold leW
 obtain⟨x0,hx0⟩:=nm_ (t.get! 0)
 obtain⟨x1,hx1⟩:=nm_ (t.get! 1)
 obtain⟨x2,hx2⟩:=nm_ (t.get! 2)
 obtain⟨x3,hx3⟩:=nm_ (t.get! 3)
 obtain⟨x4,hx4⟩:=nm_ (t.get! 4)
 obtain⟨x5,hx5⟩:=nm_ (t.get! 5)
 obtain⟨x6,hx6⟩:=nm_ (t.get! 6)
 obtain⟨x7,hx7⟩:=nm_ (t.get! 7)
 have c0:=hc 0 (by omega)
 have c1:=hc 1 (by omega)
 have c2:=hc 2 (by omega)
 have c3:=hc 3 (by omega)
 have c4:=hc 4 (by omega)
 have c5:=hc 5 (by omega)
 have c6:=hc 6 (by omega)
 have c7:=hc 7 (by omega)
 rw[hx0,Nat.add_zero] at c0
 rw[hx1] at c1
 rw[hx2] at c2
 rw[hx3] at c3
 rw[hx4] at c4
 rw[hx5] at c5
 rw[hx6] at c6
 rw[hx7] at c7
 have h0:x0.toNat<256:=x0.toNat_lt
 have h1:x1.toNat<256:=x1.toNat_lt
 have h2:x2.toNat<256:=x2.toNat_lt
 have h3:x3.toNat<256:=x3.toNat_lt
 have h4:x4.toNat<256:=x4.toNat_lt
 have h5:x5.toNat<256:=x5.toNat_lt
 have h6:x6.toNat<256:=x6.toNat_lt
 have h7:x7.toNat<256:=x7.toNat_lt
 rw[hx0,hx1,hx2,hx3,hx4,hx5,hx6,hx7]
 have hv:((Lib.leNat [x0,x1,x2,x3,x4,x5,x6,x7]:Nat):Int)=(x0.toNat:Int)+ (x1.toNat:Int)*256+ (x2.toNat:Int)*65536+ (x3.toNat:Int)*16777216+ (x4.toNat:Int)*4294967296+ (x5.toNat:Int)*1099511627776+ (x6.toNat:Int)*281474976710656+ (x7.toNat:Int)*72057594037927936:=by
  simp only[Lib.leNat]
  push_cast
  omega
 have q0:(0:Int)< (n:Int):=by omega
 have p0:0<n:=by omega
 have q1:(1:Int)< (n:Int):=by omega
 have p1:1<n:=by omega
 have q2:(2:Int)< (n:Int):=by omega
 have p2:2<n:=by omega
 have q3:(3:Int)< (n:Int):=by omega
 have p3:3<n:=by omega
 have q4:(4:Int)< (n:Int):=by omega
 have p4:4<n:=by omega
 have q5:(5:Int)< (n:Int):=by omega
 have p5:5<n:=by omega
 have q6:(6:Int)< (n:Int):=by omega
 have p6:6<n:=by omega
 have q7:(7:Int)< (n:Int):=by omega
 have p7:7<n:=by omega
 clear hc h hx0 hx1 hx2 hx3 hx4 hx5 hx6 hx7
 have mixed:Tryz.prog.follows Departure.mixedOrders=true:=by kernel_rfl
 go_enter Tryz.func215,Tryz.ntmps215
 go_wp2
 go_quiet_o (fail)
 go_wp2
 go_ret
 refine⟨?_,_,rfl⟩
 simp(disch:=omega) only[u64_wrap_id,u64_or8,u64_or16,u64_or24,u64_or32,u64_or40,u64_or48,u64_or56]
 rw[hv]
 rfl
end Go.Proofs.YtkjkhoglkpepiaaGreatDoor.txc
namespace Go.Proofs.YtkjkhoglkpepiaaGreatDoor.txc
open Go.RowKit tlvc
theorem leW_lt (t:ByteArray):leW t<18446744073709551616:=Lib.word_lt t
theorem leW_asc (t:ByteArray)(h:8≤t.size):(leW t &&& 9259542123273814144=0)↔Lib.Asc t 8:=Lib.word_asc t h
theorem belowN {B:Nat}{a w:World}(h:Below B a w): ∀q,Below B a (w.drewN q)
 |0=>h
 |q+1=>(belowN h q).drew
theorem wordAt {w W:World}{b off n:Nat}{t:ByteArray}(h:TB w (some ⟨b,off,none⟩) n t)(hn:8≤n)(hb:Below w.heap.size w W){V:Nat}(hV:leW t=V): ∀q,Calls Tryz.prog 215 #[.slice (some ⟨b,off,none⟩) n n] (W.drewN q) fun e w'=>e=.returned (.int .u64 V)∧∃q',w'=(W.drewN q).drewN q':=fun q=>by
 rw[←hV]
 exact wordB_any _ n n t _ (h.below (belowN hb q)) hn
def TabsV (w:World):Prop:=Lib.Utf8Tabs 0 1 w
theorem validB_any (A:Option Addr)(n c:Nat)(t:ByteArray)(w:World)(h:TB w A n t)(hc:n≤c)(hn:c≤maxLen)(hT:TabsV w):
 Calls Tryz.prog 195 #[.slice A n c] w fun e w'=>e=.returned (.bool (Lib.validD t.data.toList))∧Below w.heap.size w w':=by
 have hn:c≤9223372036854775807:=by unfold maxLen at hn;omega
 have mixed:Tryz.prog.follows Departure.mixedOrders=true:=by kernel_rfl
 obtain⟨ANS,hANS⟩:=nm_ (Lib.validD t.data.toList)
 rw[hANS]
 have hb0:(n:Int)≤(c:Int):=by omega
 go_enter Tryz.func195,Tryz.ntmps195
 go_wp2
 go_loopg [0] (n+1) (fun gk s0 wx=>Below w.heap.size w wx∧∃(A:Option Addr) (n:Nat) (t:ByteArray),s0=.slice A n n∧TB w A n t∧Lib.validD t.data.toList=ANS∧n<gk∧n≤9223372036854775807)
 case atStart=>exact⟨br_ _ _,_,n,t,rfl,h,hANS,by omega,by omega⟩
 case round=>
  obtain⟨hbw,A,n,t,rfl,hTB,hv,hg,hts⟩:=hrel
  clear hANS h hb0 hc hn
  have hTr:=Utf8Tabs_below hT hbw
  have hsz:t.size=n:=hTB.1
  by_cases h0:0<n
  ·obtain⟨g',rfl⟩: ∃g',gk=g'+1:=⟨gk - 1,by omega⟩
   have h0z:(0:Int)< (n:Int):=by omega
   obtain⟨b,off,rfl,hb,hcell⟩:=hTB.2 h0
   obtain⟨x0,hx0⟩:=nm_ (t.get! 0)
   have hx0lt:x0.toNat<256:=x0.toNat_lt
   have c0:wr.cell? ⟨b,off,none⟩=some (.int .u8 (x0.toNat:Int)):=by
    have:=(hbw.cell (p:=⟨b,off+0,none⟩) hb).trans (hcell 0 h0)
    rwa[hx0,Nat.add_zero] at this
   have hbr:b<wr.heap.size:=Nat.lt_of_lt_of_le hb hbw.size
   by_cases hasc:x0.toNat<128
   ·as_aux_lemma=>
     have hascz:(x0.toNat:Int)<128:=by omega
     have a1:Lib.Asc t 1:=Lib.asc_one t (by omega) (by rw[hx0];exact hasc)
     obtain⟨m,rfl⟩: ∃m,n=m+1:=⟨n - 1,by omega⟩
     have n1:(1:Int)≤((m+1:Nat):Int):=by omega
     have T1:=TB.tail hTB (k:=1) (by omega)
     rw[Nat.add_sub_cancel] at T1
     obtain⟨o1,ho1⟩:=nm_ (off+1)
     rw[ho1] at T1
     obtain⟨t1,ht1⟩:=nm_ (t.extract 1 t.size)
     have v1:Lib.validD t1.data.toList=ANS:=by rw[←ht1,Lib.valid_skip t 1 a1];exact hv
     rw[ht1] at T1
     have s1:=T1.1
     clear hTr hT hv a1 hTB hcell hx0 ht1 hsz
     by_cases c8:8<m
     ·have c8z:(8:Int)< (m:Int):=by omega
      have nz1: ¬m=0:=by omega
      have hw8:=wordAt T1 (by omega) hbw rfl
      have kA1:=leW_asc t1 (by omega)
      have lA1:=leW_lt t1
      obtain⟨A1,hA1⟩:=nm_ (leW t1)
      rw[hA1] at kA1 lA1 hw8
      have hand1:bits .and .u64 (A1:Int) 9259542123273814144=((A1 &&& 9259542123273814144:Nat):Int):=u64_and_nat A1 9259542123273814144 lA1 (by omega)
      obtain⟨Z1,hZ1⟩:=nm_ (A1 &&& 9259542123273814144)
      rw[hZ1] at hand1 kA1
      by_cases hz1:Z1=0
      ·have hz1b:((Z1:Int)==0)=true:=by simp[hz1]
       have a8:Lib.Asc t1 8:=kA1.1 hz1
       obtain⟨m2,rfl⟩: ∃m2,m=m2+8:=⟨m - 8,by omega⟩
       have T2:=TB.tail T1 (k:=8) (by omega)
       rw[Nat.add_sub_cancel] at T2
       obtain⟨o2,ho2⟩:=nm_ (o1+8)
       rw[ho2] at T2
       obtain⟨t2,ht2⟩:=nm_ (t1.extract 8 t1.size)
       have v2:Lib.validD t2.data.toList=ANS:=by rw[←ht2,Lib.valid_skip t1 8 a8];exact v1
       rw[ht2] at T2
       have s2:=T2.1
       have n8:(8:Int)≤((m2+8:Nat):Int):=by omega
       have nz2: ¬m2=0:=by omega
       clear kA1 a8 v1 T1 ht2
       go_wp2_with fail
       refine(hw8 0).mono ?_
       rintro e W1 ⟨rfl,q1,rfl⟩
       have hb1:Below w.heap.size w ((wr.drewN 0).drewN q1):=belowN (belowN hbw 0) q1
       generalize (wr.drewN 0).drewN q1=wq at hb1⊢
       clear hw8 hbw c0
       by_cases c16:16<m2
       ·as_aux_lemma=>
         have c16z:(16:Int)< (m2:Int):=by omega
         obtain⟨m3,rfl⟩: ∃m3,m2=m3+16:=⟨m2 - 16,by omega⟩
         have nz3: ¬m3=0:=by omega
         have c16y:(16:Int)< (m3:Int)+16:=by omega
         have c16b:decide ((16:Int)< (m3:Int)+16)=true:=decide_eq_true c16y
         have s8z:(8:Int)≤((m3+16:Nat):Int):=by omega
         have s16z:(16:Int)≤((m3+16:Nat):Int):=by omega
         have T2b:=TB.tail T2 (k:=8) (by omega)
         rw[show m3+16 - 8=m3+8 from by omega] at T2b
         obtain⟨o2b,ho2b⟩:=nm_ (o2+8)
         rw[ho2b] at T2b
         obtain⟨t2b,ht2b⟩:=nm_ (t2.extract 8 t2.size)
         rw[ht2b] at T2b
         have s2b:=T2b.1
         have T3:=TB.tail T2 (k:=16) (by omega)
         rw[Nat.add_sub_cancel] at T3
         have cW2:=wordAt T2 (by omega) hb1 rfl
         have cW3:=wordAt T2b (by omega) hb1 rfl
         have kA2:=leW_asc t2 (by omega)
         have kA3:=leW_asc t2b (by omega)
         have lA2:=leW_lt t2
         have lA3:=leW_lt t2b
         obtain⟨A2,hA2⟩:=nm_ (leW t2)
         obtain⟨A3,hA3⟩:=nm_ (leW t2b)
         rw[hA2] at kA2 lA2 cW2
         rw[hA3] at kA3 lA3 cW3
         have hor2:bits .or .u64 (A2:Int) (A3:Int)=((A2 ||| A3:Nat):Int):=u64_or_nat A2 A3 lA2 lA3
         have lor2:A2 ||| A3<18446744073709551616:=Nat.or_lt_two_pow (n:=64) lA2 lA3
         have hand2:bits .and .u64 ((A2 ||| A3:Nat):Int) 9259542123273814144=(((A2 ||| A3) &&& 9259542123273814144:Nat):Int):=u64_and_nat _ 9259542123273814144 lor2 (by omega)
         have k2:(A2 ||| A3) &&& 9259542123273814144=0→Lib.Asc t2 16:=fun h0'=>by
          obtain⟨e1,e2⟩:=(Lib.or_mask A2 A3 _).1 h0'
          exact Lib.asc_add t2 8 8 (kA2.1 e1) (by rw[ht2b];exact kA3.1 e2)
         obtain⟨O2,hO2⟩:=nm_ (A2 ||| A3)
         rw[hO2] at hor2 hand2 k2
         obtain⟨Z2,hZ2⟩:=nm_ (O2 &&& 9259542123273814144)
         rw[hZ2] at hand2 k2
         clear kA2 kA3 lor2 hO2 hZ2 ht2b T2b
         by_cases hz2:Z2=0
         ·as_aux_lemma=>
           have hz2b:((Z2:Int)==0)=true:=by simp[hz2]
           have a16:=k2 hz2
           obtain⟨t3,ht3⟩:=nm_ (t2.extract 16 t2.size)
           have v3:Lib.validD t3.data.toList=ANS:=by rw[←ht3,Lib.valid_skip t2 16 a16];exact v2
           rw[ht3] at T3
           have s3:=T3.1
           clear k2 a16 v2 T2 ht3
           go_wp2_with fail
           go_big_quiet_o (first | (go_at_call_of 215 o2b;refine Calls.quiet_of (cW3 _)) | (go_at_call_of 215 o2;refine Calls.quiet_of (cW2 _)))
           have hb2:Below w.heap.size w (wq.drewN nq):=belowN hb1 nq
           generalize wq.drewN nq=wq2 at hb2⊢
           clear cW2 cW3 hb1
           go_wp2
           go_loopg [0] (m3+1) (fun g2 s0 wx=>Below w.heap.size w wx∧∃(A:Option Addr) (n:Nat) (u:ByteArray),s0=.slice A n n∧TB w A n u∧Lib.validD u.data.toList=ANS∧n<g2∧n≤m3)
           case atStart=>exact⟨hb2,_,m3,t3,rfl,T3,v3,by omega,by omega⟩
           case round=>
            obtain⟨hbu,A,n,u,rfl,TU,vu,hgu,hut⟩:=hrel
            clear T3 hb2 v3
            by_cases c32:32<n
            ·obtain⟨g3,rfl⟩: ∃g3,gk=g3+1:=⟨gk - 1,by omega⟩
             obtain⟨b2,off2,rfl,hb2,hcell2⟩:=TU.2 (by omega)
             clear hcell2
             obtain⟨k,rfl⟩: ∃k,n=k+32:=⟨n - 32,by omega⟩
             have nzk: ¬k=0:=by omega
             have c32y:(32:Int)< (k:Int)+32:=by omega
             have c32t:decide ((32:Int)< (k:Int)+32)=true:=decide_eq_true c32y
             have c32z:(32:Int)< ((k+32:Nat):Int):=by omega
             have s8u:(8:Int)≤((k+32:Nat):Int):=by omega
             have s16u:(16:Int)≤((k+32:Nat):Int):=by omega
             have s24u:(24:Int)≤((k+32:Nat):Int):=by omega
             have s32u:(32:Int)≤((k+32:Nat):Int):=by omega
             have su:=TU.1
             have TUb:=TB.tail TU (k:=8) (by omega)
             rw[show k+32 - 8=k+24 from by omega] at TUb
             obtain⟨o3b,ho3b⟩:=nm_ (off2+8)
             rw[ho3b] at TUb
             obtain⟨ub,hub⟩:=nm_ (u.extract 8 u.size)
             rw[hub] at TUb
             have sub:=TUb.1
             have TUc:=TB.tail TU (k:=16) (by omega)
             rw[show k+32 - 16=k+16 from by omega] at TUc
             obtain⟨o3c,ho3c⟩:=nm_ (off2+16)
             rw[ho3c] at TUc
             obtain⟨uc,huc⟩:=nm_ (u.extract 16 u.size)
             rw[huc] at TUc
             have suc:=TUc.1
             have TUd:=TB.tail TU (k:=24) (by omega)
             rw[show k+32 - 24=k+8 from by omega] at TUd
             obtain⟨o3d,ho3d⟩:=nm_ (off2+24)
             rw[ho3d] at TUd
             obtain⟨ud,hud⟩:=nm_ (u.extract 24 u.size)
             rw[hud] at TUd
             have sud:=TUd.1
             have TU2:=TB.tail TU (k:=32) (by omega)
             rw[Nat.add_sub_cancel] at TU2
             have cB0:=wordAt TU (by omega) hbu rfl
             have kB0:=leW_asc u (by omega)
             have lB0:=leW_lt u
             obtain⟨B0,hB0⟩:=nm_ (leW u)
             rw[hB0] at cB0 kB0 lB0
             have cB1:=wordAt TUb (by omega) hbu rfl
             have kB1:=leW_asc ub (by omega)
             have lB1:=leW_lt ub
             obtain⟨B1,hB1⟩:=nm_ (leW ub)
             rw[hB1] at cB1 kB1 lB1
             have cB2:=wordAt TUc (by omega) hbu rfl
             have kB2:=leW_asc uc (by omega)
             have lB2:=leW_lt uc
             obtain⟨B2,hB2⟩:=nm_ (leW uc)
             rw[hB2] at cB2 kB2 lB2
             have cB3:=wordAt TUd (by omega) hbu rfl
             have kB3:=leW_asc ud (by omega)
             have lB3:=leW_lt ud
             obtain⟨B3,hB3⟩:=nm_ (leW ud)
             rw[hB3] at cB3 kB3 lB3
             have hq1:bits .or .u64 (B0:Int) (B1:Int)=((B0 ||| B1:Nat):Int):=u64_or_nat B0 B1 lB0 lB1
             have hq2:bits .or .u64 (B2:Int) (B3:Int)=((B2 ||| B3:Nat):Int):=u64_or_nat B2 B3 lB2 lB3
             have lo1:B0 ||| B1<18446744073709551616:=Nat.or_lt_two_pow (n:=64) lB0 lB1
             have lo2:B2 ||| B3<18446744073709551616:=Nat.or_lt_two_pow (n:=64) lB2 lB3
             have hq3:bits .or .u64 ((B0 ||| B1:Nat):Int) ((B2 ||| B3:Nat):Int)=(((B0 ||| B1) ||| (B2 ||| B3):Nat):Int):=u64_or_nat _ _ lo1 lo2
             have lo3:(B0 ||| B1) ||| (B2 ||| B3)<18446744073709551616:=Nat.or_lt_two_pow (n:=64) lo1 lo2
             have hand3:bits .and .u64 (((B0 ||| B1) ||| (B2 ||| B3):Nat):Int) 9259542123273814144=((((B0 ||| B1) ||| (B2 ||| B3)) &&& 9259542123273814144:Nat):Int):=u64_and_nat _ 9259542123273814144 lo3 (by omega)
             have k3:((B0 ||| B1) ||| (B2 ||| B3)) &&& 9259542123273814144=0→Lib.Asc u 32:=fun h0'=>by
              obtain⟨e01,e23⟩:=(Lib.or_mask _ _ _).1 h0'
              obtain⟨e0,e1⟩:=(Lib.or_mask _ _ _).1 e01
              obtain⟨e2,e3⟩:=(Lib.or_mask _ _ _).1 e23
              have y16:Lib.Asc u 16:=Lib.asc_add u 8 8 (kB0.1 e0) (by rw[hub];exact kB1.1 e1)
              have y24:Lib.Asc u 24:=Lib.asc_add u 16 8 y16 (by rw[huc];exact kB2.1 e2)
              exact Lib.asc_add u 24 8 y24 (by rw[hud];exact kB3.1 e3)
             obtain⟨P1,hP1⟩:=nm_ (B0 ||| B1)
             obtain⟨P2,hP2⟩:=nm_ (B2 ||| B3)
             rw[hP1,hP2] at hq3 hand3 k3
             rw[hP1] at hq1
             rw[hP2] at hq2
             obtain⟨P3,hP3⟩:=nm_ (P1 ||| P2)
             rw[hP3] at hq3 hand3 k3
             obtain⟨Z3,hZ3⟩:=nm_ (P3 &&& 9259542123273814144)
             rw[hZ3] at hand3 k3
             clear kB0 kB1 kB2 kB3 lo1 lo2 lo3 hP1 hP2 hP3 hZ3 TUb TUc TUd hub huc hud
             by_cases hz3:Z3=0
             ·as_aux_lemma=>
               have hz3b:((Z3:Int)==0)=true:=by simp[hz3]
               have a32:=k3 hz3
               obtain⟨u2,hu2⟩:=nm_ (u.extract 32 u.size)
               have vu2:Lib.validD u2.data.toList=ANS:=by rw[←hu2,Lib.valid_skip u 32 a32];exact vu
               rw[hu2] at TU2
               go_wp2_with fail
               go_big_quiet_o (first | (go_at_call_of 215 o3d;refine Calls.quiet_of (cB3 _)) | (go_at_call_of 215 o3c;refine Calls.quiet_of (cB2 _)) | (go_at_call_of 215 o3b;refine Calls.quiet_of (cB1 _)) | (go_at_call_of 215 off2;refine Calls.quiet_of (cB0 _)))
               go_wp2
               go_roundg g3
               case measure=>omega
               case rel=>exact⟨belowN hbu nq,_,k,u2,rfl,TU2,vu2,by omega,by omega⟩
             ·as_aux_lemma=>
               have hz3b:((Z3:Int)==0)=false:=by simp;omega
               go_wp2_with fail
               go_big_quiet_o (first | (go_at_call_of 215 o3d;refine Calls.quiet_of (cB3 _)) | (go_at_call_of 215 o3c;refine Calls.quiet_of (cB2 _)) | (go_at_call_of 215 o3b;refine Calls.quiet_of (cB1 _)) | (go_at_call_of 215 off2;refine Calls.quiet_of (cB0 _)))
               go_wp2
               go_roundg g'
               case measure=>omega
               case rel=>exact⟨belowN hbu nq,_,k+32,u,rfl,TU,vu,by omega,by omega⟩
            ·as_aux_lemma=>
              have c32z: ¬((32:Int)< (n:Int)):=by omega
              have c32b:decide ((32:Int)< (n:Int))=false:=decide_eq_false c32z
              go_wp2_with fail
              go_big_quiet_o (fail)
              go_wp2
              go_roundg g'
              case measure=>omega
              case rel=>exact⟨belowN hbu nq,A,n,u,rfl,TU,vu,by omega,by omega⟩
         ·as_aux_lemma=>
           have hz2b:((Z2:Int)==0)=false:=by simp;omega
           go_wp2_with fail
           go_big_quiet_o (first | (go_at_call_of 215 o2b;refine Calls.quiet_of (cW3 _)) | (go_at_call_of 215 o2;refine Calls.quiet_of (cW2 _)))
           go_wp2
           go_roundg g'
           case measure=>omega
           case rel=>exact⟨belowN hb1 nq,_,m3+16,t2,rfl,T2,v2,by omega,by omega⟩
       ·as_aux_lemma=>
         have c16z: ¬((16:Int)< (m2:Int)):=by omega
         have c16b:decide ((16:Int)< (m2:Int))=false:=decide_eq_false c16z
         go_wp2_with fail
         go_big_quiet_o (fail)
         go_wp2
         go_roundg g'
         case measure=>omega
         case rel=>exact⟨belowN hb1 nq,_,m2,t2,rfl,T2,v2,by omega,by omega⟩
      ·as_aux_lemma=>
        have hz1b:((Z1:Int)==0)=false:=by simp;omega
        go_wp2_with fail
        refine(hw8 0).mono ?_
        rintro e W1 ⟨rfl,q1,rfl⟩
        go_wp2
        go_roundg g'
        case measure=>omega
        case rel=>exact⟨belowN (belowN hbw 0) q1,_,m,t1,rfl,T1,v1,by omega,by omega⟩
     ·as_aux_lemma=>
       have c8z: ¬((8:Int)< (m:Int)):=by omega
       by_cases nz1:m=0
       ·subst nz1
        go_wp2
        go_roundg g'
        case measure=>omega
        case rel=>exact⟨hbw,_,0,t1,rfl,⟨T1.1,fun h=>absurd h (by omega)⟩,v1,by omega,by omega⟩
       ·go_wp2
        go_roundg g'
        case measure=>omega
        case rel=>exact⟨hbw,_,m,t1,rfl,T1,v1,by omega,by omega⟩
   ·as_aux_lemma=>
     have hge:128≤x0.toNat:=by omega
     have hascz: ¬((x0.toNat:Int)<128):=by omega
     obtain⟨x1,hx1⟩:=nm_ (t.get! 1)
     obtain⟨x2,hx2⟩:=nm_ (t.get! 2)
     obtain⟨x3,hx3⟩:=nm_ (t.get! 3)
     have l1:=x1.toNat_lt
     have l2:=x2.toNat_lt
     have l3:=x3.toNat_lt
     have hne:t.data.toList≠[]:=fun h=>by rw[←hsz,Lib.size_eq,h] at h0;simp at h0
     have hlead:=Lib.validD_lead t.data.toList hne (by rw[Lib.getD_get!',hx0];exact hge)
     rw[Lib.getD_get!',Lib.getD_get!',Lib.getD_get!',Lib.getD_get!',hx0,hx1,hx2,hx3,←Lib.size_eq,hv,hsz] at hlead
     have hc0:=hTr.1 x0.toNat hx0lt
     have hXlt:Lib.firstT x0.toNat<256:=by rcases Lib.firstT_cases x0.toNat with h |h |h |h |h |h |h |h |h<;>omega
     obtain⟨X,hX⟩:=nm_ (Lib.firstT x0.toNat)
     rw[hX] at hc0 hXlt hlead
     have h7:=and7 ⟨X,hXlt⟩
     simp only at h7
     have ha0:wr.cell? ⟨1,X/ 16*2,none⟩=some (.int .u8 (Lib.accLo (X/ 16))):=by rw[Nat.mul_comm];exact(hTr.2 (X/ 16) (by omega)).1
     have ha1:wr.cell? ⟨1,X/ 16*2+1,none⟩=some (.int .u8 (Lib.accHi (X/ 16))):=by rw[Nat.mul_comm];exact(hTr.2 (X/ 16) (by omega)).2
     obtain⟨LO,hLO⟩:=nm_ (Lib.accLo (X/ 16))
     obtain⟨HI,hHI⟩:=nm_ (Lib.accHi (X/ 16))
     rw[hLO] at ha0 hlead
     rw[hHI] at ha1 hlead
     obtain⟨SZ,hSZ⟩:=nm_ (X%8)
     rw[hSZ] at hlead
     clear hTr hT hX hv hLO hHI hne
     by_cases z2:SZ=2
     ·as_aux_lemma=>
       subst z2
       have hSZz:(X:Int)%8=2:=by omega
       simp only[Lib.checkN,Nat.reduceEqDiff,if_true,if_false] at hlead
       go_upto_region 18 with fail
       go_cut [103] from 85 to 103 (fun c wx=>c=.bool (decide (n<2∨x1.toNat<LO∨HI<x1.toNat))∧Below w.heap.size w wx)
       case first=>
        as_aux_lemma=>
         by_cases q0:n<2
         ·have q0z:(n:Int)<2:=by omega
          go_big_quiet_o (fail)
          go_wp2
          go_meet
          exact⟨congrArg Value.bool (decide_eq_true (p:=n<2∨x1.toNat<LO∨HI<x1.toNat) (by omega)).symm,belowN (hbw.alloc hbw.size _) _⟩
         ·have q0z: ¬((n:Int)<2):=by omega
          have hz1:(1:Int)< (n:Int):=by omega
          have hp1:1<n:=by omega
          have c1:wr.cell? ⟨b,off+1,none⟩=some (.int .u8 (x1.toNat:Int)):=by
           have:=(hbw.cell (p:=⟨b,off+1,none⟩) hb).trans (hcell 1 hp1)
           rwa[hx1] at this
          by_cases q1:x1.toNat<LO
          ·have q1z:(x1.toNat:Int)< (LO:Int):=by omega
           go_big_quiet_o (fail)
           go_wp2
           go_meet
           exact⟨congrArg Value.bool (decide_eq_true (p:=n<2∨x1.toNat<LO∨HI<x1.toNat) (by omega)).symm,belowN (hbw.alloc hbw.size _) _⟩
          ·have q1z: ¬((x1.toNat:Int)< (LO:Int)):=by omega
           by_cases q2:HI<x1.toNat
           ·have q2z:(HI:Int)< (x1.toNat:Int):=by omega
            go_big_quiet_o (fail)
            go_wp2
            go_meet
            exact⟨congrArg Value.bool (decide_eq_true (p:=n<2∨x1.toNat<LO∨HI<x1.toNat) (by omega)).symm,belowN (hbw.alloc hbw.size _) _⟩
           ·have q2z: ¬((HI:Int)< (x1.toNat:Int)):=by omega
            go_big_quiet_o (fail)
            go_wp2
            go_meet
            exact⟨congrArg Value.bool (decide_eq_false (p:=n<2∨x1.toNat<LO∨HI<x1.toNat) (by omega)).symm,belowN (hbw.alloc hbw.size _) _⟩
       case rest=>
        as_aux_lemma=>
         obtain⟨rfl,hbc⟩:=hcut
         by_cases hbb:n<2∨x1.toNat<LO∨HI<x1.toNat
         ·have hbd:decide (n<2∨x1.toNat<LO∨HI<x1.toNat)=true:=decide_eq_true hbb
          rw[if_pos hbb] at hlead
          go_wp2
          all_goals (go_ret;exact⟨by first |rfl |rw[hlead],hbc⟩)
         ·have hbd:decide (n<2∨x1.toNat<LO∨HI<x1.toNat)=false:=decide_eq_false hbb
          rw[if_neg hbb] at hlead
          have nk:(2:Int)≤(n:Int):=by omega
          have TT:=TB.tail hTB (k:=2) (by omega)
          by_cases nk0:n=2
          ·subst nk0
           go_wp2
           go_roundg g'
           case measure=>omega
           case rel=>exact⟨hbc,_,0,_,rfl,⟨TT.1,fun h=>absurd h (by omega)⟩,by rw[Lib.ext_list,hlead],by omega,by omega⟩
          ·have nk1: ¬n - 2=0:=by omega
           go_wp2
           go_roundg g'
           case measure=>omega
           case rel=>exact⟨hbc,_,n - 2,_,rfl,TT,by rw[Lib.ext_list,hlead],by omega,by omega⟩
     by_cases z3:SZ=3
     ·as_aux_lemma=>
       subst z3
       have hSZz:(X:Int)%8=3:=by omega
       simp only[Lib.checkN,Nat.reduceEqDiff,if_true,if_false] at hlead
       go_upto_region 22 with fail
       go_cut [138] from 108 to 138 (fun c wx=>c=.bool (decide (n<3∨x1.toNat<LO∨HI<x1.toNat∨x2.toNat<128∨191<x2.toNat))∧Below w.heap.size w wx)
       case first=>
        as_aux_lemma=>
         by_cases q0:n<3
         ·have q0z:(n:Int)<3:=by omega
          go_big_quiet_o (fail)
          go_wp2
          go_meet
          exact⟨congrArg Value.bool (decide_eq_true (p:=n<3∨x1.toNat<LO∨HI<x1.toNat∨x2.toNat<128∨191<x2.toNat) (by omega)).symm,belowN (hbw.alloc hbw.size _) _⟩
         ·have q0z: ¬((n:Int)<3):=by omega
          have hz1:(1:Int)< (n:Int):=by omega
          have hp1:1<n:=by omega
          have c1:wr.cell? ⟨b,off+1,none⟩=some (.int .u8 (x1.toNat:Int)):=by
           have:=(hbw.cell (p:=⟨b,off+1,none⟩) hb).trans (hcell 1 hp1)
           rwa[hx1] at this
          have hz2:(2:Int)< (n:Int):=by omega
          have hp2:2<n:=by omega
          have c2:wr.cell? ⟨b,off+2,none⟩=some (.int .u8 (x2.toNat:Int)):=by
           have:=(hbw.cell (p:=⟨b,off+2,none⟩) hb).trans (hcell 2 hp2)
           rwa[hx2] at this
          by_cases q1:x1.toNat<LO
          ·have q1z:(x1.toNat:Int)< (LO:Int):=by omega
           go_big_quiet_o (fail)
           go_wp2
           go_meet
           exact⟨congrArg Value.bool (decide_eq_true (p:=n<3∨x1.toNat<LO∨HI<x1.toNat∨x2.toNat<128∨191<x2.toNat) (by omega)).symm,belowN (hbw.alloc hbw.size _) _⟩
          ·have q1z: ¬((x1.toNat:Int)< (LO:Int)):=by omega
           by_cases q2:HI<x1.toNat
           ·have q2z:(HI:Int)< (x1.toNat:Int):=by omega
            go_big_quiet_o (fail)
            go_wp2
            go_meet
            exact⟨congrArg Value.bool (decide_eq_true (p:=n<3∨x1.toNat<LO∨HI<x1.toNat∨x2.toNat<128∨191<x2.toNat) (by omega)).symm,belowN (hbw.alloc hbw.size _) _⟩
           ·have q2z: ¬((HI:Int)< (x1.toNat:Int)):=by omega
            by_cases q3:x2.toNat<128
            ·have q3z:(x2.toNat:Int)<128:=by omega
             go_big_quiet_o (fail)
             go_wp2
             go_meet
             exact⟨congrArg Value.bool (decide_eq_true (p:=n<3∨x1.toNat<LO∨HI<x1.toNat∨x2.toNat<128∨191<x2.toNat) (by omega)).symm,belowN (hbw.alloc hbw.size _) _⟩
            ·have q3z: ¬((x2.toNat:Int)<128):=by omega
             by_cases q4:191<x2.toNat
             ·have q4z:(191:Int)< (x2.toNat:Int):=by omega
              go_big_quiet_o (fail)
              go_wp2
              go_meet
              exact⟨congrArg Value.bool (decide_eq_true (p:=n<3∨x1.toNat<LO∨HI<x1.toNat∨x2.toNat<128∨191<x2.toNat) (by omega)).symm,belowN (hbw.alloc hbw.size _) _⟩
             ·have q4z: ¬((191:Int)< (x2.toNat:Int)):=by omega
              go_big_quiet_o (fail)
              go_wp2
              go_meet
              exact⟨congrArg Value.bool (decide_eq_false (p:=n<3∨x1.toNat<LO∨HI<x1.toNat∨x2.toNat<128∨191<x2.toNat) (by omega)).symm,belowN (hbw.alloc hbw.size _) _⟩
       case rest=>
        as_aux_lemma=>
         obtain⟨rfl,hbc⟩:=hcut
         by_cases hbb:n<3∨x1.toNat<LO∨HI<x1.toNat∨x2.toNat<128∨191<x2.toNat
         ·have hbd:decide (n<3∨x1.toNat<LO∨HI<x1.toNat∨x2.toNat<128∨191<x2.toNat)=true:=decide_eq_true hbb
          rw[if_pos hbb] at hlead
          go_wp2
          all_goals (go_ret;exact⟨by first |rfl |rw[hlead],hbc⟩)
         ·have hbd:decide (n<3∨x1.toNat<LO∨HI<x1.toNat∨x2.toNat<128∨191<x2.toNat)=false:=decide_eq_false hbb
          rw[if_neg hbb] at hlead
          have nk:(3:Int)≤(n:Int):=by omega
          have TT:=TB.tail hTB (k:=3) (by omega)
          by_cases nk0:n=3
          ·subst nk0
           go_wp2
           go_roundg g'
           case measure=>omega
           case rel=>exact⟨hbc,_,0,_,rfl,⟨TT.1,fun h=>absurd h (by omega)⟩,by rw[Lib.ext_list,hlead],by omega,by omega⟩
          ·have nk1: ¬n - 3=0:=by omega
           go_wp2
           go_roundg g'
           case measure=>omega
           case rel=>exact⟨hbc,_,n - 3,_,rfl,TT,by rw[Lib.ext_list,hlead],by omega,by omega⟩
     by_cases z4:SZ=4
     ·as_aux_lemma=>
       subst z4
       have hSZz:(X:Int)%8=4:=by omega
       simp only[Lib.checkN,Nat.reduceEqDiff,if_true,if_false] at hlead
       go_upto_region 26 with fail
       go_cut [185] from 143 to 185 (fun c wx=>c=.bool (decide (n<4∨x1.toNat<LO∨HI<x1.toNat∨x2.toNat<128∨191<x2.toNat∨x3.toNat<128∨191<x3.toNat))∧Below w.heap.size w wx)
       case first=>
        as_aux_lemma=>
         by_cases q0:n<4
         ·have q0z:(n:Int)<4:=by omega
          go_big_quiet_o (fail)
          go_wp2
          go_meet
          exact⟨congrArg Value.bool (decide_eq_true (p:=n<4∨x1.toNat<LO∨HI<x1.toNat∨x2.toNat<128∨191<x2.toNat∨x3.toNat<128∨191<x3.toNat) (by omega)).symm,belowN (hbw.alloc hbw.size _) _⟩
         ·have q0z: ¬((n:Int)<4):=by omega
          have hz1:(1:Int)< (n:Int):=by omega
          have hp1:1<n:=by omega
          have c1:wr.cell? ⟨b,off+1,none⟩=some (.int .u8 (x1.toNat:Int)):=by
           have:=(hbw.cell (p:=⟨b,off+1,none⟩) hb).trans (hcell 1 hp1)
           rwa[hx1] at this
          have hz2:(2:Int)< (n:Int):=by omega
          have hp2:2<n:=by omega
          have c2:wr.cell? ⟨b,off+2,none⟩=some (.int .u8 (x2.toNat:Int)):=by
           have:=(hbw.cell (p:=⟨b,off+2,none⟩) hb).trans (hcell 2 hp2)
           rwa[hx2] at this
          have hz3:(3:Int)< (n:Int):=by omega
          have hp3:3<n:=by omega
          have c3:wr.cell? ⟨b,off+3,none⟩=some (.int .u8 (x3.toNat:Int)):=by
           have:=(hbw.cell (p:=⟨b,off+3,none⟩) hb).trans (hcell 3 hp3)
           rwa[hx3] at this
          by_cases q1:x1.toNat<LO
          ·have q1z:(x1.toNat:Int)< (LO:Int):=by omega
           go_big_quiet_o (fail)
           go_wp2
           go_meet
           exact⟨congrArg Value.bool (decide_eq_true (p:=n<4∨x1.toNat<LO∨HI<x1.toNat∨x2.toNat<128∨191<x2.toNat∨x3.toNat<128∨191<x3.toNat) (by omega)).symm,belowN (hbw.alloc hbw.size _) _⟩
          ·have q1z: ¬((x1.toNat:Int)< (LO:Int)):=by omega
           by_cases q2:HI<x1.toNat
           ·have q2z:(HI:Int)< (x1.toNat:Int):=by omega
            go_big_quiet_o (fail)
            go_wp2
            go_meet
            exact⟨congrArg Value.bool (decide_eq_true (p:=n<4∨x1.toNat<LO∨HI<x1.toNat∨x2.toNat<128∨191<x2.toNat∨x3.toNat<128∨191<x3.toNat) (by omega)).symm,belowN (hbw.alloc hbw.size _) _⟩
           ·have q2z: ¬((HI:Int)< (x1.toNat:Int)):=by omega
            by_cases q3:x2.toNat<128
            ·have q3z:(x2.toNat:Int)<128:=by omega
             go_big_quiet_o (fail)
             go_wp2
             go_meet
             exact⟨congrArg Value.bool (decide_eq_true (p:=n<4∨x1.toNat<LO∨HI<x1.toNat∨x2.toNat<128∨191<x2.toNat∨x3.toNat<128∨191<x3.toNat) (by omega)).symm,belowN (hbw.alloc hbw.size _) _⟩
            ·have q3z: ¬((x2.toNat:Int)<128):=by omega
             by_cases q4:191<x2.toNat
             ·have q4z:(191:Int)< (x2.toNat:Int):=by omega
              go_big_quiet_o (fail)
              go_wp2
              go_meet
              exact⟨congrArg Value.bool (decide_eq_true (p:=n<4∨x1.toNat<LO∨HI<x1.toNat∨x2.toNat<128∨191<x2.toNat∨x3.toNat<128∨191<x3.toNat) (by omega)).symm,belowN (hbw.alloc hbw.size _) _⟩
             ·have q4z: ¬((191:Int)< (x2.toNat:Int)):=by omega
              by_cases q5:x3.toNat<128
              ·have q5z:(x3.toNat:Int)<128:=by omega
               go_big_quiet_o (fail)
               go_wp2
               go_meet
               exact⟨congrArg Value.bool (decide_eq_true (p:=n<4∨x1.toNat<LO∨HI<x1.toNat∨x2.toNat<128∨191<x2.toNat∨x3.toNat<128∨191<x3.toNat) (by omega)).symm,belowN (hbw.alloc hbw.size _) _⟩
              ·have q5z: ¬((x3.toNat:Int)<128):=by omega
               by_cases q6:191<x3.toNat
               ·have q6z:(191:Int)< (x3.toNat:Int):=by omega
                go_big_quiet_o (fail)
                go_wp2
                go_meet
                exact⟨congrArg Value.bool (decide_eq_true (p:=n<4∨x1.toNat<LO∨HI<x1.toNat∨x2.toNat<128∨191<x2.toNat∨x3.toNat<128∨191<x3.toNat) (by omega)).symm,belowN (hbw.alloc hbw.size _) _⟩
               ·have q6z: ¬((191:Int)< (x3.toNat:Int)):=by omega
                go_big_quiet_o (fail)
                go_wp2
                go_meet
                exact⟨congrArg Value.bool (decide_eq_false (p:=n<4∨x1.toNat<LO∨HI<x1.toNat∨x2.toNat<128∨191<x2.toNat∨x3.toNat<128∨191<x3.toNat) (by omega)).symm,belowN (hbw.alloc hbw.size _) _⟩
       case rest=>
        as_aux_lemma=>
         obtain⟨rfl,hbc⟩:=hcut
         by_cases hbb:n<4∨x1.toNat<LO∨HI<x1.toNat∨x2.toNat<128∨191<x2.toNat∨x3.toNat<128∨191<x3.toNat
         ·have hbd:decide (n<4∨x1.toNat<LO∨HI<x1.toNat∨x2.toNat<128∨191<x2.toNat∨x3.toNat<128∨191<x3.toNat)=true:=decide_eq_true hbb
          rw[if_pos hbb] at hlead
          go_wp2
          all_goals (go_ret;exact⟨by first |rfl |rw[hlead],hbc⟩)
         ·have hbd:decide (n<4∨x1.toNat<LO∨HI<x1.toNat∨x2.toNat<128∨191<x2.toNat∨x3.toNat<128∨191<x3.toNat)=false:=decide_eq_false hbb
          rw[if_neg hbb] at hlead
          have nk:(4:Int)≤(n:Int):=by omega
          have TT:=TB.tail hTB (k:=4) (by omega)
          by_cases nk0:n=4
          ·subst nk0
           go_wp2
           go_roundg g'
           case measure=>omega
           case rel=>exact⟨hbc,_,0,_,rfl,⟨TT.1,fun h=>absurd h (by omega)⟩,by rw[Lib.ext_list,hlead],by omega,by omega⟩
          ·have nk1: ¬n - 4=0:=by omega
           go_wp2
           go_roundg g'
           case measure=>omega
           case rel=>exact⟨hbc,_,n - 4,_,rfl,TT,by rw[Lib.ext_list,hlead],by omega,by omega⟩
     have e2: ¬((X:Int)%8=2):=by omega
     have e3: ¬((X:Int)%8=3):=by omega
     have e4: ¬((X:Int)%8=4):=by omega
     have e2b:(((X:Int)%8)==2)=false:=by simp;omega
     have e3b:(((X:Int)%8)==3)=false:=by simp;omega
     have e4b:(((X:Int)%8)==4)=false:=by simp;omega
     simp only[Lib.checkN,z2,z3,z4,if_false] at hlead
     go_wp2
     all_goals (go_ret;exact⟨by first |rfl |rw[hlead],hbw.alloc hbw.size _⟩)
  ·have h0z: ¬((0:Int)< (n:Int)):=by omega
   have ht0:t.data.toList=[]:=List.eq_nil_of_length_eq_zero (by rw[←Lib.size_eq];omega)
   rw[ht0,Lib.validD_nil] at hv
   subst hv
   go_wp2
   go_ret
   exact⟨rfl,hbw⟩
end Go.Proofs.YtkjkhoglkpepiaaGreatDoor.txc
namespace Go.Proofs.YtkjkhoglkpepiaaGreatDoor.txc
open Go.RowKit txm tlvc
theorem refRight_any (t:Int)(A:Option Addr)(n c:Nat)(xs:List Int)(w:World)(hx:Bys w A n xs)(hc:n≤c)(hn:c≤maxLen)(hT:Tabs w):
 Calls Tryz.prog 155 #[.int .u8 t,.slice A n c] w fun e w'=>e=.returned (.bool (rightD t xs))∧Below w.heap.size w w':=by
 unfold rightD
 by_cases h12:t=12
 ·subst h12
  rw[if_pos rfl]
  have hv:=validB_any A n c (strOfNums xs) w (TB.of_bys hx) hc hn hT
  have e:Lib.validD (strOfNums xs).data.toList=utfB xs:=rfl
  rw[e] at hv
  obtain⟨u,hu⟩:=nm_ (utfB xs)
  rw[hu] at hv⊢
  have HV:=hd_ hv
  clear hv hu e
  go_enter Tryz.func155,Tryz.ntmps155
  go_wp2_with fail
  refine HV.out.mono ?_
  rintro e w' ⟨rfl,hb⟩
  go_wp2
  go_ret
  exact⟨rfl,hb⟩
 ·rw[if_neg h12]
  by_cases ht:t=19∨t=22∨t=27
  ·exact(refRight_low t ht A n c xs w hx (Nat.le_trans hc hn)).mono fun e w' ⟨h1,h2⟩=>⟨h1,h2▸br_ _ _⟩
  ·unfold rightB
   rw[if_neg ht]
   have h12b:(t==12)=false:=by simpa using h12
   have h19: ¬t=19:=fun h=>ht (.inl h)
   have h22: ¬t=22:=fun h=>ht (.inr (.inl h))
   have h27: ¬t=27:=fun h=>ht (.inr (.inr h))
   have n19:(t !=19)=true:=by simpa using h19
   have n22:(t !=22)=true:=by simpa using h22
   have n27:(t !=27)=true:=by simpa using h27
   clear ht
   go_enter Tryz.func155,Tryz.ntmps155
   go_wp2
   go_ret
   exact⟨rfl,br_ _ _⟩
end Go.Proofs.YtkjkhoglkpepiaaGreatDoor.txc
