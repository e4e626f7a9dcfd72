/- The certificate that the node of the head's certificate tell -/
import Derived.Test.YtkjkhoglkpepiaaGreatDoorQe
import Derived.Test.YtkjkhoglkpepiaaGreatDoorAf
set_option maxRecDepth 100000
set_option maxHeartbeats 16000000
set_option linter.unusedVariables false
set_option linter.unusedSimpArgs false
namespace Go.Proofs.YtkjkhoglkpepiaaGreatDoor.nmc
open Go.RowKit tlvc tlvd ndc txc txm intc intm vtc
def setN (W:World)(b:Nat):Nat→List Value→World
 |_,[]=>W
 |i,v::vs=>setN (W.setCell ⟨b,i,none⟩ v) b (i+1) vs
def putN (a:Array Value):Nat→List Value→Array Value
 |_,[]=>a
 |i,v::vs=>putN (a.setIfInBounds i v) (i+1) vs
theorem setN_size (b:Nat): ∀(vs:List Value) (W:World) (i:Nat),(setN W b i vs).heap.size=W.heap.size
 | [],_,_=>rfl
 |v::vs,W,i=>(setN_size b vs _ _).trans (set_size _ _ _)
theorem setN_other {b g:Nat}(h:g≠b): ∀(vs:List Value) (W:World) (i:Nat),(setN W b i vs).heap[g]? =W.heap[g]?
 | [],_,_=>rfl
 |v::vs,W,i=>(setN_other h vs _ _).trans (set_heap_other _ _ _ _ _ h)
theorem setN_below {B b:Nat}{w:World}(hb:B≤b): ∀(vs:List Value) (W:World) (i:Nat),Below B w W→Below B w (setN W b i vs)
 | [],_,_,h=>h
 |v::vs,W,i,h=>setN_below hb vs _ _ (h.setCell (p:=⟨b,i,none⟩) hb v)
theorem setN_box {b:Nat}{T:TypeId}: ∀(vs:List Value) (W:World) (i:Nat) (a:Array Value),W.heap[b]? =some (.cells a T)→(setN W b i vs).heap[b]? =some (.cells (putN a i vs) T)
 | [],_,_,_,h=>h
 |v::vs,W,i,a,h=>setN_box vs _ _ _ (set_heap _ _ _ _ _ _ _ h)
structure TB (w:World) (n3:Array Value) (c:Ce) (W:World):Prop where
 bel:Below w.heap.size w W
 siz:w.heap.size+2≤W.heap.size
 arg:W.heap[w.heap.size]? =some (.cells n3 43)
 box: ∃c0 c1 c2 c3 c4 c5 x0 x1 x2 x3 x4 x5 x6 x7 x8 c6,W.heap[w.heap.size+1]? =some (.cells #[c0,c1,c2,c3,c4,c5,x0,x1,x2,x3,x4,x5,x6,x7,x8,c6] 32)∧CeC (fun g=>w.heap.size+2≤g) W c c0 c1 c2 c3 c4 c5 x0 x1 x2 x3 x4 x5 x6 x7 x8 c6
section
variable {w W W':World} {n3:Array Value} {c:Ce}
theorem TB.call (h:TB w n3 c W)(hb:Below W.heap.size W W'):TB w n3 c W':=by
 have hz:=h.siz
 obtain⟨c0,c1,c2,c3,c4,c5,x0,x1,x2,x3,x4,x5,x6,x7,x8,c6,hx,hc⟩:=h.box
 exact⟨below_then h.bel hb (lr_ _),Nat.le_trans hz hb.size,(hb.block _ (by omega)).trans h.arg,c0,c1,c2,c3,c4,c5,x0,x1,x2,x3,x4,x5,x6,x7,x8,c6,(hb.block _ (by omega)).trans hx,hc.below hb⟩
theorem TB.sets {i:Nat}{vs:List Value}{d:Ce}(h:TB w n3 c W)
 (hs: ∀c0 c1 c2 c3 c4 c5 x0 x1 x2 x3 x4 x5 x6 x7 x8 c6,CeC (fun g=>w.heap.size+2≤g) W c c0 c1 c2 c3 c4 c5 x0 x1 x2 x3 x4 x5 x6 x7 x8 c6→∃dc0 dc1 dc2 dc3 dc4 dc5 dx0 dx1 dx2 dx3 dx4 dx5 dx6 dx7 dx8 dc6,putN #[c0,c1,c2,c3,c4,c5,x0,x1,x2,x3,x4,x5,x6,x7,x8,c6] i vs=#[dc0,dc1,dc2,dc3,dc4,dc5,dx0,dx1,dx2,dx3,dx4,dx5,dx6,dx7,dx8,dc6]∧CeC (fun g=>w.heap.size+2≤g) W d dc0 dc1 dc2 dc3 dc4 dc5 dx0 dx1 dx2 dx3 dx4 dx5 dx6 dx7 dx8 dc6):TB w n3 d (setN W (w.heap.size+1) i vs):=by
 have hz:=h.siz
 obtain⟨c0,c1,c2,c3,c4,c5,x0,x1,x2,x3,x4,x5,x6,x7,x8,c6,hx,hc⟩:=h.box
 obtain⟨dc0,dc1,dc2,dc3,dc4,dc5,dx0,dx1,dx2,dx3,dx4,dx5,dx6,dx7,dx8,dc6,e,hd⟩:=hs _ _ _ _ _ _ _ _ _ _ _ _ _ _ _ _ hc
 refine⟨setN_below (by omega) _ _ _ h.bel,by rw[setN_size];exact hz,(setN_other (by omega) _ _ _).trans h.arg,dc0,dc1,dc2,dc3,dc4,dc5,dx0,dx1,dx2,dx3,dx4,dx5,dx6,dx7,dx8,dc6,by rw[setN_box _ _ _ _ hx,e],?_⟩
 exact hd.on (by rw[setN_size];exact lr_ _) (fun g (hg:w.heap.size+2≤g) _=>setN_other (by omega) _ _ _) (fun _ hg _=>hg)
theorem TB.s0 (h:TB w n3 c W){v:Int}(hv:I64 v):TB w n3 {c with ser:=v} (W.setCell ⟨w.heap.size+1,0,none⟩ (.int .i64 v)):=
 h.sets (vs:=[.int .i64 v]) (i:=0) fun c0 c1 c2 c3 c4 c5 x0 x1 x2 x3 x4 x5 x6 x7 x8 c6 hc=>⟨_,_,_,_,_,_,_,_,_,_,_,_,_,_,_,_,rfl,⟨⟨rfl,hv⟩,hc.iss,hc.frm,hc.til,hc.sub,hc.key,hc.ex,hc.sig⟩⟩
theorem TB.s2 (h:TB w n3 c W){v:Int}(hv:I64 v):TB w n3 {c with frm:=v} (W.setCell ⟨w.heap.size+1,2,none⟩ (.int .i64 v)):=
 h.sets (vs:=[.int .i64 v]) (i:=2) fun c0 c1 c2 c3 c4 c5 x0 x1 x2 x3 x4 x5 x6 x7 x8 c6 hc=>⟨_,_,_,_,_,_,_,_,_,_,_,_,_,_,_,_,rfl,⟨hc.ser,hc.iss,⟨rfl,hv⟩,hc.til,hc.sub,hc.key,hc.ex,hc.sig⟩⟩
theorem TB.s3 (h:TB w n3 c W){v:Int}(hv:I64 v):TB w n3 {c with til:=v} (W.setCell ⟨w.heap.size+1,3,none⟩ (.int .i64 v)):=
 h.sets (vs:=[.int .i64 v]) (i:=3) fun c0 c1 c2 c3 c4 c5 x0 x1 x2 x3 x4 x5 x6 x7 x8 c6 hc=>⟨_,_,_,_,_,_,_,_,_,_,_,_,_,_,_,_,rfl,⟨hc.ser,hc.iss,hc.frm,⟨rfl,hv⟩,hc.sub,hc.key,hc.ex,hc.sig⟩⟩
theorem TB.s5 (h:TB w n3 c W){v:Int}(hv:I64 v):TB w n3 {c with key:=v} (W.setCell ⟨w.heap.size+1,5,none⟩ (.int .i64 v)):=
 h.sets (vs:=[.int .i64 v]) (i:=5) fun c0 c1 c2 c3 c4 c5 x0 x1 x2 x3 x4 x5 x6 x7 x8 c6 hc=>⟨_,_,_,_,_,_,_,_,_,_,_,_,_,_,_,_,rfl,⟨hc.ser,hc.iss,hc.frm,hc.til,hc.sub,⟨rfl,hv⟩,hc.ex,hc.sig⟩⟩
theorem TB.s7 (h:TB w n3 c W){v:Int}(hv:I64 v):TB w n3 {c with sig:=v} (W.setCell ⟨w.heap.size+1,15,none⟩ (.int .i64 v)):=
 h.sets (vs:=[.int .i64 v]) (i:=15) fun c0 c1 c2 c3 c4 c5 x0 x1 x2 x3 x4 x5 x6 x7 x8 c6 hc=>⟨_,_,_,_,_,_,_,_,_,_,_,_,_,_,_,_,rfl,⟨hc.ser,hc.iss,hc.frm,hc.til,hc.sub,hc.key,hc.ex,⟨rfl,hv⟩⟩⟩
theorem TB.s1 (h:TB w n3 c W){xs:List At}{v:Value}(hv:LsC atE (fun g=>w.heap.size+2≤g) W xs v):TB w n3 {c with iss:=xs} (W.setCell ⟨w.heap.size+1,1,none⟩ (v)):=
 h.sets (vs:=[v]) (i:=1) fun c0 c1 c2 c3 c4 c5 x0 x1 x2 x3 x4 x5 x6 x7 x8 c6 hc=>⟨_,_,_,_,_,_,_,_,_,_,_,_,_,_,_,_,rfl,⟨hc.ser,hv,hc.frm,hc.til,hc.sub,hc.key,hc.ex,hc.sig⟩⟩
theorem TB.s4 (h:TB w n3 c W){xs:List At}{v:Value}(hv:LsC atE (fun g=>w.heap.size+2≤g) W xs v):TB w n3 {c with sub:=xs} (W.setCell ⟨w.heap.size+1,4,none⟩ (v)):=
 h.sets (vs:=[v]) (i:=4) fun c0 c1 c2 c3 c4 c5 x0 x1 x2 x3 x4 x5 x6 x7 x8 c6 hc=>⟨_,_,_,_,_,_,_,_,_,_,_,_,_,_,_,_,rfl,⟨hc.ser,hc.iss,hc.frm,hc.til,hv,hc.key,hc.ex,hc.sig⟩⟩
theorem TB.s6 (h:TB w n3 c W){x:Ex}{v0 v1 v2 v3 v4 v5 v6 v7 v8:Value}(hv:ExC (fun g=>w.heap.size+2≤g) W x v0 v1 v2 v3 v4 v5 v6 v7 v8):TB w n3 {c with ex:=x} (setN W (w.heap.size+1) 6 [v0,v1,v2,v3,v4,v5,v6,v7,v8]):=
 h.sets fun c0 c1 c2 c3 c4 c5 x0 x1 x2 x3 x4 x5 x6 x7 x8 c6 hc=>⟨c0,c1,c2,c3,c4,c5,v0,v1,v2,v3,v4,v5,v6,v7,v8,c6,by simp only[putN,qa_,qb_,qc_],⟨hc.ser,hc.iss,hc.frm,hc.til,hc.sub,hc.key,hv,hc.sig⟩⟩
theorem TB.re {W':World}(e:W=W')(h:TB w n3 c W):TB w n3 c W':=e▸h
end
def ce0:Ce:=⟨0,[],0,0,[],0,ex0,0⟩
theorem ce0_cells {S:Nat→Prop}{w:World}:CeC S w ce0 (.int .i64 0) (.slice none 0 0) (.int .i64 0) (.int .i64 0) (.slice none 0 0) (.int .i64 0) (.bool false) (.bool false) (.int .i64 0) (.int .u16 0) (.slice none 0 0) (.slice none 0 0) (.slice none 0 0) (.slice none 0 0) (.slice none 0 0) (.int .i64 0):=
 have z:I64 0:=by unfold I64;decide
 ⟨⟨rfl,z⟩,LsC.nil,⟨rfl,z⟩,⟨rfl,z⟩,LsC.nil,⟨rfl,z⟩,ex0_cells _ _,⟨rfl,z⟩⟩
theorem tb_new {w W:World}{n3:Array Value}(h:(w.alloc (.cells n3 43)).alloc (.cells #[.int .i64 0,.slice none 0 0,.int .i64 0,.int .i64 0,.slice none 0 0,.int .i64 0,.bool false,.bool false,.int .i64 0,.int .u16 0,.slice none 0 0,.slice none 0 0,.slice none 0 0,.slice none 0 0,.slice none 0 0,.int .i64 0] 32)=W):TB w n3 ce0 W:=by
 subst h
 refine⟨(below_new _ _).alloc (by simp) _,by simp,by rw[heap_old_ _ _ (by simp)];exact heap_new_ _ _,_,_,_,_,_,_,_,_,_,_,_,_,_,_,_,_,heap_is (by simp),ce0_cells⟩
theorem fin16 {w W:World}{bc0 bc1 bc2 bc3 bc4 bc5 bx0 bx1 bx2 bx3 bx4 bx5 bx6 bx7 bx8 bc6 c0 c1 c2 c3 c4 c5 x0 x1 x2 x3 x4 x5 x6 x7 x8 c6:Value}(hb:Below w.heap.size w W)(hx:W.heap[w.heap.size+1]? =some (.cells #[bc0,bc1,bc2,bc3,bc4,bc5,bx0,bx1,bx2,bx3,bx4,bx5,bx6,bx7,bx8,bc6] 32)): ∀W',setN W (w.heap.size+1) 0 [c0,c1,c2,c3,c4,c5,x0,x1,x2,x3,x4,x5,x6,x7,x8,c6]=W'→W'.heap[w.heap.size+1]? =some (.cells #[c0,c1,c2,c3,c4,c5,x0,x1,x2,x3,x4,x5,x6,x7,x8,c6] 32)∧Below w.heap.size w W'∧(∀g,g≠w.heap.size+1→W'.heap[g]? =W.heap[g]?)∧W'.heap.size=W.heap.size:=fun W' e=>by
 subst e
 refine⟨?_,setN_below (by omega) _ _ _ hb,fun g hg=>setN_other hg _ _ _,setN_size _ _ _ _⟩
 rw[setN_box _ _ _ _ hx]
 simp only[putN,qa_,qb_,qc_]
theorem fz16 {W:World}{b:Nat}{c0 c1 c2 c3 c4 c5 x0 x1 x2 x3 x4 x5 x6 x7 x8 c6:Value}{T:TypeId}(h:W.heap[b]? =some (.cells #[c0,c1,c2,c3,c4,c5,x0,x1,x2,x3,x4,x5,x6,x7,x8,c6] T)):(W.frozen? ⟨b,0,none⟩=false∧W.frozen? ⟨b,1,none⟩=false∧W.frozen? ⟨b,2,none⟩=false∧W.frozen? ⟨b,3,none⟩=false∧W.frozen? ⟨b,4,none⟩=false∧W.frozen? ⟨b,5,none⟩=false)∧(W.frozen? ⟨b,6,none⟩=false∧W.frozen? ⟨b,7,none⟩=false∧W.frozen? ⟨b,8,none⟩=false∧W.frozen? ⟨b,9,none⟩=false∧W.frozen? ⟨b,10,none⟩=false∧W.frozen? ⟨b,11,none⟩=false∧W.frozen? ⟨b,12,none⟩=false∧W.frozen? ⟨b,13,none⟩=false∧W.frozen? ⟨b,14,none⟩=false)∧W.frozen? ⟨b,15,none⟩=false:=
 ⟨⟨fh_ h _,fh_ h _,fh_ h _,fh_ h _,fh_ h _,fh_ h _⟩,⟨fh_ h _,fh_ h _,fh_ h _,fh_ h _,fh_ h _,fh_ h _,fh_ h _,fh_ h _,fh_ h _⟩,fh_ h _⟩
theorem kid_at {B:Nat→Prop}{w:World}{n:Nd}{t:Int}{A:Option Addr}{l k:Nat}{K:Option Addr}{m u:Nat}(h:NdC B w n (.int .u8 t) (.slice A l k) (.slice K m u))(i:Nat)(hi:i<m):m≤u∧u≤maxLen∧∃g off t A1 l1 k1 K1 m1 n1,K=some ⟨g,off,none⟩∧w.cell? ⟨g,off+i*3,none⟩=some (.int .u8 t)∧w.cell? ⟨g,off+i*3+1,none⟩=some (.slice A1 l1 k1)∧w.cell? ⟨g,off+i*3+2,none⟩=some (.slice K1 m1 n1)∧NdC B w (kidF n i) (.int .u8 t) (.slice A1 l1 k1) (.slice K1 m1 n1):=by
 obtain⟨t',b,ks⟩:=n
 obtain⟨_,_,_,K',u',e,h1,h2,hL⟩:=NdC.kidsL h
 simp only[Value.slice.injEq] at e
 obtain⟨rfl,rfl,rfl⟩:=e
 obtain⟨g,off,t1,A1,l1,k1,K1,m1,n1,e0,e1,e2,e3,hn⟩:=nd_cells hL (br_ _ w) i hi
 refine⟨h1,h2,g,off,t1,A1,l1,k1,K1,m1,n1,e0,e1,e2,e3,?_⟩
 rw[show kidF (.mk t' b ks) i=ks[i] by show ks.getD i _=ks[i];rw[List.getD_eq_getElem?_getD,List.getElem?_eq_getElem hi];rfl]
 exact hn
def ceH:Ce:=⟨5,[],0,9,[],1,ex0,2⟩
def bdH:Nd:=.mk 48 [] [numN 5,nameN [],.mk 48 [] [timeNd 0,timeNd 9],nameN [],hNd 1]
def ndH:Nd:=.mk 48 [] [bdH,hNd 2]
theorem i64c {n:Int}(h: -9223372036854775808≤n∧n≤9223372036854775807):I64 n:=h
def VOk (v:Int)(w:World)(e:Ending)(w':World):Prop:=Below w.heap.size w w'∧e=.returned (.tuple #[.int .i64 v,.int .i64 0])
theorem int5_any (B:Nat→Prop)(t:Int)(A:Option Addr)(l k:Nat)(K:Option Addr)(m u:Nat)(w:World)(hn:NdC B w (numN 5) (.int .u8 t) (.slice A l k) (.slice K m u)):Calls Tryz.prog 42 #[.slice A l k] w (VOk 5 w):=by
 obtain⟨h1,h2,h3,_⟩:=body_size hn
 refine(int_any A l k _ w h3 h1 h2).mono fun e w' h=>⟨h.2,?_⟩
 have hf:intF (numN 5).body=(5,0):=intF_put' (n:=5) (by unfold I64;decide)
 rw[h.1,hf]
theorem timeH_any {s:Int}(hs:InR s)(B:Nat→Prop)(t:Int)(A:Option Addr)(l k:Nat)(K:Option Addr)(m u:Nat)(w:World)(hn:NdC B w (timeNd s) (.int .u8 t) (.slice A l k) (.slice K m u)):Calls Tryz.prog 44 #[.int .u8 t,.slice A l k] w (VOk s w):=by
 obtain⟨h1,h2,h3,_⟩:=body_size hn
 have ht:tagOf s=t:=by
  have:=(NdC.kidsL hn).1
  simp only[Value.int.injEq,true_and] at this
  exact this.symm
 subst ht
 have h0:=timeO_back hs
 unfold timeO at h0
 refine(Time_any _ A l k _ w h3 h1 (by unfold maxLen at h2;omega)).mono fun e w' h=>⟨h.2,?_⟩
 split at h0
 ·rename_i hz
  have hv:=Option.some.inj h0
  rw[h.1]
  show Ending.returned (.tuple #[.int .i64 (timeN (timeNd s).tag (timeNd s).body),.int .i64 (timeE (timeNd s).tag (timeNd s).body)])=_
  rw[hz,hv]
 ·cases h0
theorem numH_any {v:Int}(hv:0≤v∧v<281474976710656)(B:Nat→Prop)(c0 c1 c2:Value)(w:World)(hn:NdC B w (hNd v) c0 c1 c2):Calls Tryz.prog 45 #[.agg #[c0,c1,c2]] w (VOk v w):=by
 refine(handleOf_any B _ c0 c1 c2 w hn).mono fun e w' h=>?_
 obtain⟨hb,y,er,he,hr⟩:=h
 have hq:numF (hNd v).body=some v:=num_hb hv
 rw[hq] at hr
 obtain⟨rfl,rfl⟩:=hr
 exact⟨hb,he⟩
theorem nameH_any (B:Nat→Prop)(c0 c1 c2:Value)(w:World)(hn:NdC B w (nameN []) c0 c1 c2)(hT:Tabs w):Calls Tryz.prog 43 #[.agg #[c0,c1,c2]] w (fun e w'=>Below w.heap.size w w'∧∃A k,e=.returned (.tuple #[.slice A 0 k,.int .i64 0])∧LsC atE (fun g=>w.heap.size≤g) w' [] (.slice A 0 k)):=by
 have h:=getF_any B _ c0 c1 c2 w hn hT
 rw[getN_name (l:=[]) rfl] at h
 refine h.mono fun e w' h=>?_
 obtain⟨hb,A,k,rfl,h1,h2,h3⟩:=h
 exact⟨hb,A,k,rfl,A,k,rfl,h1,h2,h3⟩
def COk (w:World)(e:Ending)(w':World):Prop:=Below w.heap.size w w'∧∃c0 c1 c2 c3 c4 c5 x0 x1 x2 x3 x4 x5 x6 x7 x8 c6,e=.returned (.tuple #[.agg #[c0,c1,c2,c3,c4,c5,x0,x1,x2,x3,x4,x5,x6,x7,x8,c6],.int .i64 0])∧CeC (fun g=>w.heap.size≤g) w' ceH c0 c1 c2 c3 c4 c5 x0 x1 x2 x3 x4 x5 x6 x7 x8 c6
theorem exts0_any (K:Option Addr)(n c:Nat)(w:World)(hn:n=0):Calls Tryz.prog 46 #[.slice K n c] w (fun e w'=>Below w.heap.size w w'∧e=.returned (.tuple #[.agg #[.bool false,.bool false,.int .i64 0,.int .u16 0,.slice none 0 0,.slice none 0 0,.slice none 0 0,.slice none 0 0,.slice none 0 0],.int .i64 0])):=by
 subst hn
 obtain⟨W0,hW0⟩:=nm_ (w.alloc (.cells #[.bool false,.bool false,.int .i64 0,.int .u16 0,.slice none 0 0,.slice none 0 0,.slice none 0 0,.slice none 0 0,.slice none 0 0] 30))
 have hb0:Below w.heap.size w W0:=by rw[←hW0];exact below_new _ _
 have p0:W0.heap[w.heap.size]? =some (.cells #[.bool false,.bool false,.int .i64 0,.int .u16 0,.slice none 0 0,.slice none 0 0,.slice none 0 0,.slice none 0 0,.slice none 0 0] 30):=by rw[←hW0];exact heap_new_ _ _
 have f0:=fh_ p0 0
 have s0:=(ch_ p0 0).trans rfl
 have f1:=fh_ p0 1
 have s1:=(ch_ p0 1).trans rfl
 have f2:=fh_ p0 2
 have s2:=(ch_ p0 2).trans rfl
 have f3:=fh_ p0 3
 have s3:=(ch_ p0 3).trans rfl
 have f4:=fh_ p0 4
 have s4:=(ch_ p0 4).trans rfl
 have f5:=fh_ p0 5
 have s5:=(ch_ p0 5).trans rfl
 have f6:=fh_ p0 6
 have s6:=(ch_ p0 6).trans rfl
 have f7:=fh_ p0 7
 have s7:=(ch_ p0 7).trans rfl
 have f8:=fh_ p0 8
 have s8:=(ch_ p0 8).trans rfl
 obtain⟨W9,hW9⟩:=nm_ (setN W0 w.heap.size 0 [.bool false,.bool false,.int .i64 0,.int .u16 0,.slice none 0 0,.slice none 0 0,.slice none 0 0,.slice none 0 0,.slice none 0 0])
 have hb:=setN_below (lr_ _) [.bool false,.bool false,.int .i64 0,.int .u16 0,.slice none 0 0,.slice none 0 0,.slice none 0 0,.slice none 0 0,.slice none 0 0] W0 0 hb0
 have hq:=setN_box [.bool false,.bool false,.int .i64 0,.int .u16 0,.slice none 0 0,.slice none 0 0,.slice none 0 0,.slice none 0 0,.slice none 0 0] W0 0 _ p0
 rw[hW9] at hb hq
 simp only[putN,qa_,qb_,qc_] at hq
 have HE:=hd_ hb
 have HW:=hd_ hW9
 have r0:=(ch_ hq 0).trans rfl
 have r1:=(ch_ hq 1).trans rfl
 have r2:=(ch_ hq 2).trans rfl
 have r3:=(ch_ hq 3).trans rfl
 have r4:=(ch_ hq 4).trans rfl
 have r5:=(ch_ hq 5).trans rfl
 have r6:=(ch_ hq 6).trans rfl
 have r7:=(ch_ hq 7).trans rfl
 have r8:=(ch_ hq 8).trans rfl
 clear hb hb0 p0 hq hW9
 go_enter Tryz.func46,Tryz.ntmps46
 go_wp2_with fail
 have hW9:=HW.out
 simp only[setN] at hW9
 rw[hW9]
 refine bodyPost_ret (v:=.tuple #[.agg #[.bool false,.bool false,.int .i64 0,.int .u16 0,.slice none 0 0,.slice none 0 0,.slice none 0 0,.slice none 0 0,.slice none 0 0],.int .i64 0]) ?_ rfl ⟨HE.out,rfl⟩
 simp[results,Tryz.results46,go_sem,r0,r1,r2,r3,r4,r5,r6,r7,r8]
theorem toldHd_any (B:Nat→Prop)(c0 c1 c2:Value)(w:World)(hn:NdC B w ndH c0 c1 c2)(hT:Tabs w):
 Calls Tryz.prog 19 #[.agg #[c0,c1,c2]] w (COk w):=by
 have mixed:Tryz.prog.follows Departure.mixedOrders=true:=by kernel_rfl
 obtain⟨t,A,l,k,K,m,u,rfl,rfl,rfl⟩:=hn.shape
 obtain⟨W0,hW0⟩:=nm_ ((w.alloc (.cells #[.int .u8 t,.slice A l k,.slice K m u] 43)).alloc (.cells #[.int .i64 0,.slice none 0 0,.int .i64 0,.int .i64 0,.slice none 0 0,.int .i64 0,.bool false,.bool false,.int .i64 0,.int .u16 0,.slice none 0 0,.slice none 0 0,.slice none 0 0,.slice none 0 0,.slice none 0 0,.int .i64 0] 32))
 have hTB:=tb_new hW0
 obtain rfl:m=2:=nd_len' hn
 have HT:=hd_ hT
 obtain⟨x0,x1,x2⟩:=(st3 hTB.arg).2
 have HB:=hd_ hTB
 clear hTB hT
 go_enter Tryz.func19,Tryz.ntmps19
 go_wp2
 refine wp_scope_jumps 0 (fun _ _=>False) (fun _ _=>0) rfl ?_ ?_
 ·obtain⟨u1,u2,g,off,t1,A1,l1,k1,K1,m1,n1,rfl,_,_,v2,hn1⟩:=kid_at hn 0 (by decide)
  obtain⟨_,_,g',off',ts,As,ls,ks,Ks,ms,ns,e,z0,z1,z2,hnz⟩:=kid_at hn 1 (by decide)
  cases e
  have hn1:NdC B w bdH _ _ _:=hn1
  have hnz:NdC B w (hNd 2) _ _ _:=hnz
  have hm1:m1=5:=nd_len' hn1
  have y2:W0.cell? ⟨g,off+2,none⟩=some (.slice K1 m1 n1):=cell_on HB.out.bel (by simpa using v2)
  have u3:2≤u:=u1
  have HZ:=hd_ (ai_ z0 (ai_ z1 (ai_ z2 hnz)))
  have HM1:=hd_ hm1
  have HN1:=hd_ hn1
  clear hn hn1 v2 z0 z1 z2 hnz hm1 u2
  go_upto_region 4 with fail
  clear x0 x1 x2 y2 u1
  go_cut [22] from 15 to 22 (fun s22 wx=>s22=.bool false∧wx=W0)
  case first=>
   obtain rfl:=HM1.out
   go_wp2_with fail
   go_meet
   exact⟨rfl,rfl⟩
  case rest=>
  obtain⟨rfl,rfl⟩:=hcut
  obtain⟨k1',k2',g1,o1,t2,A2,l2,i2,K2,m2,n2,rfl,_,_,v2,hn2⟩:=kid_at HN1.out 2 (by have:=HM1.out;omega)
  have y2:wc.cell? ⟨g1,o1+8,none⟩=some (.slice K2 m2 n2):=cell_on HB.out.bel (by simpa using v2)
  have hlt2:(2:Int)< (m1:Int):=by have:=HM1.out;omega
  have hn2:NdC B w (.mk 48 [] [timeNd 0,timeNd 9]) _ _ _:=hn2
  obtain rfl:m2=2:=nd_len' hn2
  have HN2:=hd_ hn2
  have HK1:=hd_ (ai_ k1' k2')
  clear hn2 v2 k1' k2'
  go_upto_region 6 with fail
  clear y2 hlt2
  obtain⟨g2,o2,rfl⟩: ∃g2 o2,K2=some ⟨g2,o2,none⟩:=by obtain⟨_,_,g',o',_,_,_,_,_,_,_,e,_⟩:=kid_at HN2.out 0 (by decide);exact⟨g',o',e⟩
  obtain⟨_,_,g',o',t0,P0,p0,r0,Q0,q0,y0,e,z0,z1,z2,hnk⟩:=kid_at HN1.out 0 (by have:=HM1.out;omega)
  cases e
  have z0:wc.cell? ⟨g1,o1,none⟩=some (.int .u8 t0):=cell_on HB.out.bel (by simpa using z0)
  have z1:wc.cell? ⟨g1,o1+1,none⟩=some (.slice P0 p0 r0):=cell_on HB.out.bel (by simpa using z1)
  have z2:wc.cell? ⟨g1,o1+2,none⟩=some (.slice Q0 q0 y0):=cell_on HB.out.bel (by simpa using z2)
  have hnk:NdC B wc (numN 5) _ _ _:=NdC.below HB.out.bel _ _ _ _ hnk
  have HC:=hd_ (int5_any _ _ _ _ _ _ _ _ wc hnk)
  have hlt0:(0:Int)< (m1:Int):=by have:=HM1.out;omega
  clear hnk
  go_wp2_with fail
  clear z0 z1 z2 hlt0
  refine HC.out.mono ?_
  rintro e w1 ⟨hb1,rfl⟩
  have hB:=HB.out.call hb1
  obtain⟨_,_,_,_,_,_,_,_,_,_,_,_,_,_,_,_,hx,_⟩:=hB.box
  have f0:=fh_ hx 0
  have s0:=(ch_ hx 0).trans rfl
  have HS:=hd_ (hB.s0 (v:=5) (i64c (by decide)))
  clear hB hx hb1 HC HB
  go_upto_region 8 with fail
  obtain⟨W1,hW⟩:=nm_ (w1.setCell ⟨w.heap.size+1,0,none⟩ (.int .i64 5))
  rw[hW]
  have HB:=hd_ (HS.out.re hW)
  clear HS hW f0 s0
  obtain⟨_,_,g',o',t0,P0,p0,r0,Q0,q0,y0,e,z0,z1,z2,hnk⟩:=kid_at HN1.out 1 (by have:=HM1.out;omega)
  cases e
  have z0:W1.cell? ⟨g1,o1+3,none⟩=some (.int .u8 t0):=cell_on HB.out.bel (by simpa using z0)
  have z1:W1.cell? ⟨g1,o1+4,none⟩=some (.slice P0 p0 r0):=cell_on HB.out.bel (by simpa using z1)
  have z2:W1.cell? ⟨g1,o1+5,none⟩=some (.slice Q0 q0 y0):=cell_on HB.out.bel (by simpa using z2)
  have hnk:NdC B W1 (nameN []) _ _ _:=NdC.below HB.out.bel _ _ _ _ hnk
  have HC:=hd_ (nameH_any _ _ _ _ W1 hnk (HT.out.below HB.out.bel))
  have hlt0:(1:Int)< (m1:Int):=by have:=HM1.out;omega
  clear hnk
  go_wp2_with fail
  clear z0 z1 z2 hlt0
  refine HC.out.mono ?_
  rintro e w1 ⟨hb1,D,q,rfl,hv⟩
  have hB:=HB.out.call hb1
  obtain⟨_,_,_,_,_,_,_,_,_,_,_,_,_,_,_,_,hx,_⟩:=hB.box
  have f1:=fh_ hx 1
  have s1:=(ch_ hx 1).trans rfl
  have HS:=hd_ (hB.s1 (hv.on (lr_ _) (fun _ _ _=>rfl) (fun g (hg:W1.heap.size≤g) _=>by have:=HB.out.siz;omega)))
  clear hB hx hb1 HC HB hv
  go_upto_region 10 with fail
  obtain⟨W2,hW⟩:=nm_ (w1.setCell ⟨w.heap.size+1,1,none⟩ (.slice D 0 q))
  rw[hW]
  have HB:=hd_ (HS.out.re hW)
  clear HS hW f1 s1
  obtain⟨_,_,g',o',t0,P0,p0,r0,Q0,q0,y0,e,z0,z1,z2,hnk⟩:=kid_at HN2.out 0 (by decide)
  cases e
  have HLW:=hd_ (fun W' (hW:Below w.heap.size w W')=>ai_ (show W'.cell? ⟨g2,o2,none⟩=some (.int .u8 t0) from cell_on hW (by simpa using z0)) (show W'.cell? ⟨g2,o2+1,none⟩=some (.slice P0 p0 r0) from cell_on hW (by simpa using z1)))
  have z0:W2.cell? ⟨g2,o2,none⟩=some (.int .u8 t0):=cell_on HB.out.bel (by simpa using z0)
  have z1:W2.cell? ⟨g2,o2+1,none⟩=some (.slice P0 p0 r0):=cell_on HB.out.bel (by simpa using z1)
  have z2:W2.cell? ⟨g2,o2+2,none⟩=some (.slice Q0 q0 y0):=cell_on HB.out.bel (by simpa using z2)
  have hnk:NdC B W2 (timeNd 0) _ _ _:=NdC.below HB.out.bel _ _ _ _ hnk
  have HCT:=hd_ (fun W' (hW:Below W2.heap.size W2 W')=>timeH_any (by unfold InR;decide) _ _ _ _ _ _ _ _ W' (NdC.below hW _ _ _ _ hnk))
  have HL:=hd_ (fun W' (hW:Below W2.heap.size W2 W')=>ai_ (cell_on hW z0) (cell_on hW z1))
  clear hnk z0 z1 z2
  go_wp2_with fail
  try dsimp only
  refine wp_region_noPanic ?_
  refine rh_ mixed HL.out (below_drew W2) (fun hHeld=>?_)
  have hbd:=below_drew W2
  obtain⟨wd,hwd⟩:=nm_ (W2.drew)
  rw[hwd] at hHeld hbd⊢
  clear hwd
  refine tk_ (i:=0) (hS:=hHeld) (z:=?_)
  refine tk_ (i:=4) (hS:=hHeld) (z:=?_)
  refine tk_ (i:=1) (hS:=hHeld) (z:=?_)
  refine tk_ (i:=5) (hS:=hHeld) (z:=?_)
  refine tk_ (i:=2) (hS:=hHeld) (z:=?_)
  refine tk_ (i:=6) (hS:=hHeld) (z:=?_)
  refine tk_ (i:=3) (hS:=hHeld) (z:=?_)
  refine tk_ (i:=7) (hS:=hHeld) (z:=?_)
  refine on_ (i:=8) (z:=fun KK hKK=>?_)
  go_simp
  refine(HCT.out wd hbd).mono ?_
  rintro e w1 ⟨hb1,rfl⟩
  dsimp only
  refine hKK.out _ _ (HL.out _ (below_then hbd hb1 (lr_ _))) (fun hHeld=>?_)
  clear hKK KK
  try simp only[Act.put,qa_,qb_,qc_]
  refine tk_ (i:=9) (hS:=hHeld) (z:=?_)
  refine tk_ (i:=10) (hS:=hHeld) (z:=?_)
  refine tk_ (i:=11) (hS:=hHeld) (z:=?_)
  refine tk_ (i:=12) (hS:=hHeld) (z:=?_)
  have hB:=HB.out.call (below_then hbd hb1 (lr_ _))
  obtain⟨_,_,_,_,_,_,_,_,_,_,_,_,_,_,_,_,hx,_⟩:=hB.box
  have f2:=fh_ hx 2
  have s2:=(ch_ hx 2).trans rfl
  have hBs:=hB.s2 (v:=0) (i64c (by decide))
  have HS:=hd_ hBs
  have hs2:=HLW.out _ hBs.bel
  clear hB hx hb1 HB hBs hbd
  refine on_ (i:=13) (z:=fun KK hKK=>?_)
  go_simp
  refine hKK.out _ _ hs2 (fun hHeld=>?_)
  clear hKK KK
  try simp only[Act.put,qa_,qb_,qc_]
  clear hs2
  refine tk_ (i:=14) (hS:=hHeld) (z:=?_)
  refine wpAnyH_done (by kernel_rfl) ?_ _
  refine NoPanic.normal ?_
  clear hHeld HL HCT HLW
  go_upto_region 12 with fail
  obtain⟨W3,hW⟩:=nm_ (w1.setCell ⟨w.heap.size+1,2,none⟩ (.int .i64 0))
  rw[hW]
  have HB:=hd_ (HS.out.re hW)
  clear HS hW f2 s2
  obtain⟨_,_,g',o',t0,P0,p0,r0,Q0,q0,y0,e,z0,z1,z2,hnk⟩:=kid_at HN2.out 1 (by decide)
  cases e
  have HLW:=hd_ (fun W' (hW:Below w.heap.size w W')=>ai_ (show W'.cell? ⟨g2,o2+3,none⟩=some (.int .u8 t0) from cell_on hW (by simpa using z0)) (show W'.cell? ⟨g2,o2+4,none⟩=some (.slice P0 p0 r0) from cell_on hW (by simpa using z1)))
  have z0:W3.cell? ⟨g2,o2+3,none⟩=some (.int .u8 t0):=cell_on HB.out.bel (by simpa using z0)
  have z1:W3.cell? ⟨g2,o2+4,none⟩=some (.slice P0 p0 r0):=cell_on HB.out.bel (by simpa using z1)
  have z2:W3.cell? ⟨g2,o2+5,none⟩=some (.slice Q0 q0 y0):=cell_on HB.out.bel (by simpa using z2)
  have hnk:NdC B W3 (timeNd 9) _ _ _:=NdC.below HB.out.bel _ _ _ _ hnk
  have HCT:=hd_ (fun W' (hW:Below W3.heap.size W3 W')=>timeH_any (by unfold InR;decide) _ _ _ _ _ _ _ _ W' (NdC.below hW _ _ _ _ hnk))
  have HL:=hd_ (fun W' (hW:Below W3.heap.size W3 W')=>ai_ (cell_on hW z0) (cell_on hW z1))
  clear hnk z0 z1 z2
  go_wp2_with fail
  try dsimp only
  refine wp_region_noPanic ?_
  refine rh_ mixed HL.out (below_drew W3) (fun hHeld=>?_)
  have hbd:=below_drew W3
  obtain⟨wd,hwd⟩:=nm_ (W3.drew)
  rw[hwd] at hHeld hbd⊢
  clear hwd
  refine tk_ (i:=0) (hS:=hHeld) (z:=?_)
  refine tk_ (i:=4) (hS:=hHeld) (z:=?_)
  refine tk_ (i:=1) (hS:=hHeld) (z:=?_)
  refine tk_ (i:=5) (hS:=hHeld) (z:=?_)
  refine tk_ (i:=2) (hS:=hHeld) (z:=?_)
  refine tk_ (i:=6) (hS:=hHeld) (z:=?_)
  refine tk_ (i:=3) (hS:=hHeld) (z:=?_)
  refine tk_ (i:=7) (hS:=hHeld) (z:=?_)
  refine on_ (i:=8) (z:=fun KK hKK=>?_)
  go_simp
  refine(HCT.out wd hbd).mono ?_
  rintro e w1 ⟨hb1,rfl⟩
  dsimp only
  refine hKK.out _ _ (HL.out _ (below_then hbd hb1 (lr_ _))) (fun hHeld=>?_)
  clear hKK KK
  try simp only[Act.put,qa_,qb_,qc_]
  refine tk_ (i:=9) (hS:=hHeld) (z:=?_)
  refine tk_ (i:=10) (hS:=hHeld) (z:=?_)
  refine tk_ (i:=11) (hS:=hHeld) (z:=?_)
  refine tk_ (i:=12) (hS:=hHeld) (z:=?_)
  have hB:=HB.out.call (below_then hbd hb1 (lr_ _))
  obtain⟨_,_,_,_,_,_,_,_,_,_,_,_,_,_,_,_,hx,_⟩:=hB.box
  have f3:=fh_ hx 3
  have s3:=(ch_ hx 3).trans rfl
  have hBs:=hB.s3 (v:=9) (i64c (by decide))
  have HS:=hd_ hBs
  have hs2:=HLW.out _ hBs.bel
  clear hB hx hb1 HB hBs hbd
  refine on_ (i:=13) (z:=fun KK hKK=>?_)
  go_simp
  refine hKK.out _ _ hs2 (fun hHeld=>?_)
  clear hKK KK
  try simp only[Act.put,qa_,qb_,qc_]
  clear hs2
  refine tk_ (i:=14) (hS:=hHeld) (z:=?_)
  refine wpAnyH_done (by kernel_rfl) ?_ _
  refine NoPanic.normal ?_
  clear hHeld HL HCT HLW
  go_upto_region 14 with fail
  obtain⟨W4,hW⟩:=nm_ (w1.setCell ⟨w.heap.size+1,3,none⟩ (.int .i64 9))
  rw[hW]
  have HB:=hd_ (HS.out.re hW)
  clear HS hW f3 s3
  obtain⟨_,_,g',o',t0,P0,p0,r0,Q0,q0,y0,e,z0,z1,z2,hnk⟩:=kid_at HN1.out 3 (by have:=HM1.out;omega)
  cases e
  have z0:W4.cell? ⟨g1,o1+9,none⟩=some (.int .u8 t0):=cell_on HB.out.bel (by simpa using z0)
  have z1:W4.cell? ⟨g1,o1+10,none⟩=some (.slice P0 p0 r0):=cell_on HB.out.bel (by simpa using z1)
  have z2:W4.cell? ⟨g1,o1+11,none⟩=some (.slice Q0 q0 y0):=cell_on HB.out.bel (by simpa using z2)
  have hnk:NdC B W4 (nameN []) _ _ _:=NdC.below HB.out.bel _ _ _ _ hnk
  have HC:=hd_ (nameH_any _ _ _ _ W4 hnk (HT.out.below HB.out.bel))
  have hlt0:(3:Int)< (m1:Int):=by have:=HM1.out;omega
  clear hnk
  go_wp2_with fail
  clear z0 z1 z2 hlt0
  refine HC.out.mono ?_
  rintro e w1 ⟨hb1,D,q,rfl,hv⟩
  have hB:=HB.out.call hb1
  obtain⟨_,_,_,_,_,_,_,_,_,_,_,_,_,_,_,_,hx,_⟩:=hB.box
  have f4:=fh_ hx 4
  have s4:=(ch_ hx 4).trans rfl
  have HS:=hd_ (hB.s4 (hv.on (lr_ _) (fun _ _ _=>rfl) (fun g (hg:W4.heap.size≤g) _=>by have:=HB.out.siz;omega)))
  clear hB hx hb1 HC HB hv
  go_upto_region 16 with fail
  obtain⟨W5,hW⟩:=nm_ (w1.setCell ⟨w.heap.size+1,4,none⟩ (.slice D 0 q))
  rw[hW]
  have HB:=hd_ (HS.out.re hW)
  clear HS hW f4 s4
  obtain⟨_,_,g',o',t0,P0,p0,r0,Q0,q0,y0,e,z0,z1,z2,hnk⟩:=kid_at HN1.out 4 (by have:=HM1.out;omega)
  cases e
  have z0:W5.cell? ⟨g1,o1+12,none⟩=some (.int .u8 t0):=cell_on HB.out.bel (by simpa using z0)
  have z1:W5.cell? ⟨g1,o1+13,none⟩=some (.slice P0 p0 r0):=cell_on HB.out.bel (by simpa using z1)
  have z2:W5.cell? ⟨g1,o1+14,none⟩=some (.slice Q0 q0 y0):=cell_on HB.out.bel (by simpa using z2)
  have hnk:NdC B W5 (hNd 1) _ _ _:=NdC.below HB.out.bel _ _ _ _ hnk
  have HC:=hd_ (numH_any (by decide) _ _ _ _ W5 hnk)
  have hlt0:(4:Int)< (m1:Int):=by have:=HM1.out;omega
  clear hnk
  go_wp2_with fail
  clear z0 z1 z2 hlt0
  refine HC.out.mono ?_
  rintro e w1 ⟨hb1,rfl⟩
  have hB:=HB.out.call hb1
  obtain⟨_,_,_,_,_,_,_,_,_,_,_,_,_,_,_,_,hx,_⟩:=hB.box
  have f5:=fh_ hx 5
  have s5:=(ch_ hx 5).trans rfl
  have HS:=hd_ (hB.s5 (v:=1) (i64c (by decide)))
  clear hB hx hb1 HC HB
  go_upto_region 18 with fail
  obtain⟨W6,hW⟩:=nm_ (w1.setCell ⟨w.heap.size+1,5,none⟩ (.int .i64 1))
  rw[hW]
  have HB:=hd_ (HS.out.re hW)
  clear HS hW f5 s5
  have k1:=HK1.out.1
  have k2:=HK1.out.2
  have hm:=HM1.out
  have HC:=hd_ (fun K=>exts0_any K (m1 - 5) (n1 - 5) W6 (by omega))
  obtain⟨K5,hK5⟩: ∃z:Option Addr,(if n1=5 then some ⟨g1,o1,none⟩ else some ⟨g1,o1+15,none⟩)=z:=⟨_,rfl⟩
  have k51:(5:Int)≤(m1:Int):=by omega
  have k52:(m1:Int) - 5=((m1 - 5:Nat):Int):=by omega
  have k53:(n1:Int) - 5=((n1 - 5:Nat):Int):=by omega
  have k54:(m1:Int)≤(n1:Int):=by omega
  have k55:m1≤n1:=k1
  clear k1 k2 hm
  go_wp2_with fail
  refine(HC.out _).mono ?_
  rintro e w1 ⟨hb1,rfl⟩
  clear k51 k52 k53 k54 k55 hK5
  have hB:=HB.out.call hb1
  obtain⟨_,_,_,_,_,_,_,_,_,_,_,_,_,_,_,_,hx,_⟩:=hB.box
  have f6:=fh_ hx 6
  have s6:=(ch_ hx 6).trans rfl
  have f7:=fh_ hx 7
  have s7:=(ch_ hx 7).trans rfl
  have f8:=fh_ hx 8
  have s8:=(ch_ hx 8).trans rfl
  have f9:=fh_ hx 9
  have s9:=(ch_ hx 9).trans rfl
  have f10:=fh_ hx 10
  have s10:=(ch_ hx 10).trans rfl
  have f11:=fh_ hx 11
  have s11:=(ch_ hx 11).trans rfl
  have f12:=fh_ hx 12
  have s12:=(ch_ hx 12).trans rfl
  have f13:=fh_ hx 13
  have s13:=(ch_ hx 13).trans rfl
  have f14:=fh_ hx 14
  have s14:=(ch_ hx 14).trans rfl
  have HS:=hd_ (hB.s6 (ex0_cells _ _))
  clear hB hx hb1 HC HB
  go_upto_region 20 with fail
  obtain⟨W7,hW⟩:=nm_ (((((((((w1.setCell ⟨w.heap.size+1,6,none⟩ (.bool false)).setCell ⟨w.heap.size+1,7,none⟩ (.bool false)).setCell ⟨w.heap.size+1,8,none⟩ (.int .i64 0)).setCell ⟨w.heap.size+1,9,none⟩ (.int .u16 0)).setCell ⟨w.heap.size+1,10,none⟩ (.slice none 0 0)).setCell ⟨w.heap.size+1,11,none⟩ (.slice none 0 0)).setCell ⟨w.heap.size+1,12,none⟩ (.slice none 0 0)).setCell ⟨w.heap.size+1,13,none⟩ (.slice none 0 0)).setCell ⟨w.heap.size+1,14,none⟩ (.slice none 0 0))
  rw[hW]
  have HB:=hd_ (HS.out.re hW)
  clear HS hW f6 s6 f7 s7 f8 s8 f9 s9 f10 s10 f11 s11 f12 s12 f13 s13 f14 s14
  obtain⟨_,x0,x1,x2⟩:=st3 HB.out.arg
  obtain⟨z0,z1,z2,hnk⟩:=HZ.out
  have z0:W7.cell? ⟨g,off+3,none⟩=some (.int .u8 ts):=cell_on HB.out.bel (by simpa using z0)
  have z1:W7.cell? ⟨g,off+4,none⟩=some (.slice As ls ks):=cell_on HB.out.bel (by simpa using z1)
  have z2:W7.cell? ⟨g,off+5,none⟩=some (.slice Ks ms ns):=cell_on HB.out.bel (by simpa using z2)
  have HC:=hd_ (numH_any (by decide) _ _ _ _ W7 (NdC.below HB.out.bel _ _ _ _ hnk))
  clear hnk
  go_wp2_with fail
  clear z0 z1 z2 x0 x1 x2
  refine HC.out.mono ?_
  rintro e w1 ⟨hb1,rfl⟩
  have hB:=HB.out.call hb1
  obtain⟨_,_,_,_,_,_,_,_,_,_,_,_,_,_,_,_,hx,_⟩:=hB.box
  have f15:=fh_ hx 15
  have s15:=(ch_ hx 15).trans rfl
  have HS:=hd_ (hB.s7 (v:=2) (i64c (by decide)))
  clear hB hx hb1 HC HB
  go_upto_region 22 with fail
  obtain⟨W8,hW⟩:=nm_ (w1.setCell ⟨w.heap.size+1,15,none⟩ (.int .i64 2))
  rw[hW]
  have HB:=hd_ (HS.out.re hW)
  clear HS hW f15 s15
  obtain⟨hbel,hsiz,_,c0,c1,c2,c3,c4,c5,x0,x1,x2,x3,x4,x5,x6,x7,x8,c6,hx,hc⟩:=HB.out
  obtain⟨a0,E1,e1,h1,a2,a3,E4,e4,h4,a5,q0,q1,q2,q3,F4,m4,j4,F5,m5,j5,F6,m6,j6,F7,m7,j7,F8,m8,j8,a7,rfl,rfl,rfl,rfl,rfl,rfl,rfl,rfl,rfl,rfl,rfl,rfl,rfl,rfl,rfl,rfl⟩:=ceC_shape hc
  have HF:=hd_ (fun(W':World) e=>ai_ (fin16 (c0:=.int .i64 a0) (c1:=.slice E1 e1 h1) (c2:=.int .i64 a2) (c3:=.int .i64 a3) (c4:=.slice E4 e4 h4) (c5:=.int .i64 a5) (x0:=.bool q0) (x1:=.bool q1) (x2:=.int .i64 q2) (x3:=.int .u16 q3) (x4:=.slice F4 m4 j4) (x5:=.slice F5 m5 j5) (x6:=.slice F6 m6 j6) (x7:=.slice F7 m7 j7) (x8:=.slice F8 m8 j8) (c6:=.int .i64 a7) hbel hx W' e) hc)
  obtain⟨⟨f0,f1,f2,f3,f4,f5⟩,⟨f6,f7,f8,f9,f10,f11,f12,f13,f14⟩,f15⟩:=fz16 hx
  obtain⟨⟨s0,s1,s2,s3,s4,s5⟩,⟨s6,s7,s8,s9,s10,s11,s12,s13,s14⟩,s15⟩:=box16 hx
  clear hbel hx hc HB HZ HN1 HN2 hsiz
  go_wp2_with fail
  simp only[Exit.jump]
  clear f0 s0 f1 s1 f2 s2 f3 s3 f4 s4 f5 s5 f6 s6 f7 s7 f8 s8 f9 s9 f10 s10 f11 s11 f12 s12 f13 s13 f14 s14 f15 s15
  obtain⟨W9,hW9⟩:=nm_ (setN W8 (w.heap.size+1) 0 [.int .i64 a0,.slice E1 e1 h1,.int .i64 a2,.int .i64 a3,.slice E4 e4 h4,.int .i64 a5,.bool q0,.bool q1,.int .i64 q2,.int .u16 q3,.slice F4 m4 j4,.slice F5 m5 j5,.slice F6 m6 j6,.slice F7 m7 j7,.slice F8 m8 j8,.int .i64 a7])
  obtain⟨⟨hq,hb,hoth,hsz⟩,hc⟩:=HF.out W9 hW9
  have hc9:=hc.on (S':=fun g=>w.heap.size≤g) (by rw[hsz];exact lr_ _) (fun g (hg:w.heap.size+2≤g) _=>hoth g (by omega)) (fun g (hg:w.heap.size+2≤g) _=>by omega)
  simp only[setN] at hW9
  rw[hW9]
  obtain⟨⟨r0,r1,r2,r3,r4,r5⟩,⟨r6,r7,r8,r9,r10,r11,r12,r13,r14⟩,r15⟩:=box16 hq
  refine bodyPost_ret (v:=.tuple #[.agg #[.int .i64 a0,.slice E1 e1 h1,.int .i64 a2,.int .i64 a3,.slice E4 e4 h4,.int .i64 a5,.bool q0,.bool q1,.int .i64 q2,.int .u16 q3,.slice F4 m4 j4,.slice F5 m5 j5,.slice F6 m6 j6,.slice F7 m7 j7,.slice F8 m8 j8,.int .i64 a7],.int .i64 0]) ?_ rfl ⟨hb,_,_,_,_,_,_,_,_,_,_,_,_,_,_,_,_,rfl,hc9⟩
  simp[results,Tryz.results19,go_sem,r0,r1,r2,r3,r4,r5,r6,r7,r8,r9,r10,r11,r12,r13,r14,r15]
 ·exact fun a w' h=>h.elim
end Go.Proofs.YtkjkhoglkpepiaaGreatDoor.nmc
