/- The live question of warderlaw01: it answers true, and writes nothing that was there. tlv.Head reads and writes nothing: what it answers to any bytes at any place. tlv.Head reads and writes nothing: what it answers to any bytes at any place. tlv.Head with a length of two and of three bytes. What Head answers, as one function of the bytes; its ways put together. The document's own answer to Head: the same as tlv.Head's, way by way. What the laws of warderlaw01 share. What the laws of warderlaw01 share: Put's ways by the tag and the body; what its bytes are. -/
import Derived.Test.YtconbejjagcnkaaGreatDoorLa
import Derived.WalkMore
import Derived.ScopeJumps
import Derived.Outline
import Derived.WalkSpells
import Derived.BigQuiet
import Derived.Deep.QuietTactic
import Derived.OpenShut
import Derived.Deep.Draws
import Derived.Test.YtconbejjagcnkaaGreatDoorKa
namespace Go.Proofs.YtconbejjagcnkaaGreatDoor.tlvd
open Go.RowKit Go.Proofs.YtconbejjagcnkaaGreatDoor.tlvc

theorem e4:endlessB 4=false:=by decide+kernel
theorem e31:endlessB 31=true:=by decide+kernel

end Go.Proofs.YtconbejjagcnkaaGreatDoor.tlvd
namespace Go.Proofs.YtconbejjagcnkaaGreatDoor.tlvd
open Go.RowKit Go.Proofs.YtconbejjagcnkaaGreatDoor.tlvc

theorem or8 (x y:Int)(h0:0≤x)(hx:x%256=0)(h1:x<4611686018427387904)(hy0:0≤y)(hy:y<256):bits .or .i64 x y=x+y:=
  bits_join .i64 62 (by decide) (fun n h₀ h₁=>by rw[IntKind.wrap_i64];omega) 8 x y h0 hx h1 hy0 hy (by omega)
theorem or0 (y:Int)(hy0:0≤y)(hy:y<256):bits .or .i64 0 y=y:=by rw[or8 0 y (by decide) (by decide) (by decide) hy0 hy];omega

set_option maxHeartbeats 400000 in
theorem length_1 (A:Option Addr)(c:Nat)(x:Int)(w:World)(hb:Bys w A 1 [x]):
    Calls Tryz.prog 142 #[.slice A 1 c] w fun e w'=>e=.returned (.int .i64 x)∧w=w':=by
  obtain⟨b,off,rfl,_,hc⟩:=hb.2.2 (by decide)
  have hf:=hb.fit x (by simp)
  have h0:w.cell? ⟨b,off,none⟩=some (.int .u8 x):=by simpa using hc 0 (by decide)
  go_enter Tryz.func142,Tryz.ntmps142
  go_wp2
  go_ret
  exact⟨rfl,rfl⟩

set_option maxHeartbeats 400000 in
theorem length_2 (A:Option Addr)(c:Nat)(x y:Int)(w:World)(hc2:2≤c)(hb:Bys w A 2 [x,y]):
    Calls Tryz.prog 142 #[.slice A 2 c] w fun e w'=>e=.returned (.int .i64 y)∧w=w':=by
  obtain⟨b,off,rfl,_,hc⟩:=hb.2.2 (by decide)
  have hf:=hb.fit y (by simp)
  have h1:w.cell? ⟨b,off+1,none⟩=some (.int .u8 y):=by simpa using hc 1 (by decide)
  clear hc
  have hcap: ¬c=1:=by omega
  have ho:=or0 y (by omega) (by omega)
  go_enter Tryz.func142,Tryz.ntmps142
  go_wp2
  refine wp_loop_rounds 2 ?_
  rw[rounds_succ]
  go_wp2
  rw[rounds_succ]
  go_wp2
  go_ret
  exact⟨rfl,rfl⟩

set_option maxHeartbeats 400000 in
theorem length_3 (A:Option Addr)(c:Nat)(x y z:Int)(w:World)(hc2:3≤c)(hb:Bys w A 3 [x,y,z]):
    Calls Tryz.prog 142 #[.slice A 3 c] w fun e w'=>e=.returned (.int .i64 (y*256+z))∧w=w':=by
  obtain⟨b,off,rfl,_,hc⟩:=hb.2.2 (by decide)
  have hf:=hb.fit y (by simp)
  have hg:=hb.fit z (by simp)
  have h1:w.cell? ⟨b,off+1,none⟩=some (.int .u8 y):=by simpa using hc 1 (by decide)
  have h2:w.cell? ⟨b,off+1+1,none⟩=some (.int .u8 z):=by simpa[Nat.add_assoc] using hc 2 (by decide)
  clear hc
  have hcap: ¬c=1:=by omega
  have ho:=or0 y (by omega) (by omega)
  have ho2:=or8 (y*256) z (by omega) (by omega) (by omega) (by omega) (by omega)
  go_enter Tryz.func142,Tryz.ntmps142
  go_wp2
  refine wp_loop_rounds 3 ?_
  rw[rounds_succ]
  go_wp2
  rw[rounds_succ]
  go_wp2
  rw[rounds_succ]
  go_wp2
  go_ret
  exact⟨rfl,rfl⟩
end Go.Proofs.YtconbejjagcnkaaGreatDoor.tlvd
namespace Go.Proofs.YtconbejjagcnkaaGreatDoor.tlvd
open Go.RowKit Go.Proofs.YtconbejjagcnkaaGreatDoor.tlvc
set_option linter.unusedVariables false

theorem results_tmp4 {fn:Func}{t u v x:Tmp}(h:fn.results=#[.tmp t,.tmp u,.tmp v,.tmp x])(tmps:Array Value)(P:Program)(w:World):
    (results fn tmps).run P w=.ok (.tuple #[tmps.getD t undef,tmps.getD u undef,tmps.getD v undef,tmps.getD x undef]) w:=by simp[results,h]

/-- What Head answers where it refuses. -/
def No (n:Int):Ending:=.returned (.tuple #[.int .u8 0,.int .i64 0,.int .i64 0,.int .i64 n])
/-- What it answers where it doesn't. -/
def Yes (t a z:Int):Ending:=.returned (.tuple #[.int .u8 t,.int .i64 a,.int .i64 z,.int .i64 0])

def HeadStop (w:World)(n:Int)(a':Act)(w':World):Prop:=w=w'∧a'.defers=[]∧a'.tmps.size=79∧a'.tmps.getD 11 undef=.int .i64 n

set_option maxRecDepth 100000 in
theorem head_arg (A:Option Addr)(n c:Nat)(at_:Int)(w:World)(h:at_<0∨(n:Int)<at_):
    Calls Tryz.prog 123 #[.slice A n c,.int .i64 at_] w fun e w'=>e=No 1∧w=w':=by
  go_enter Tryz.func123,Tryz.ntmps123
  go_wp2
  refine wp_scope_jumps 0 (HeadStop w 1) (fun _ _=>0) rfl ?_ ?_
  · rcases h with h |h
    · go_wp2
      go_step3
      exact⟨rfl,rfl,rfl,rfl,rfl⟩
    · by_cases h0:at_<0
      · go_wp2
        go_step3
        exact⟨rfl,rfl,rfl,rfl,rfl⟩
      · go_wp2
        go_step3
        exact⟨rfl,rfl,rfl,rfl,rfl⟩
  · rintro⟨tmps,defers⟩ w' ⟨rfl,rfl,hs,h7⟩
    go_wp2
    simp only[Exit.jump]
    refine bodyPost_ret (results_tmp4 rfl _ _ _) rfl ?_
    simp[hs,No]

set_option maxRecDepth 100000 in
theorem head_end (A:Option Addr)(n c:Nat)(w:World)(hnc:n≤c)(hm:n≤maxLen):
    Calls Tryz.prog 123 #[.slice A n c,.int .i64 n] w fun e w'=>e=No 12∧w=w':=by
  unfold maxLen at hm
  go_enter Tryz.func123,Tryz.ntmps123
  go_wp2
  refine wp_scope_jumps 0 (HeadStop w 12) (fun _ _=>0) rfl ?_ ?_
  · go_wp2
    all_goals
      go_step3
      exact⟨rfl,rfl,rfl,rfl,rfl⟩
  · rintro⟨tmps,defers⟩ w' ⟨rfl,rfl,hs,h7⟩
    go_wp2
    simp only[Exit.jump]
    refine bodyPost_ret (results_tmp4 rfl _ _ _) rfl ?_
    simp[hs,No]

set_option maxRecDepth 100000 in
set_option maxHeartbeats 400000 in
theorem head_tag (b off k m c:Nat)(t:Int)(w:World)(hm:1≤m)(hnc:k+m≤c)(hmax:k+m≤9223372036854775807)(ht:endlessB t=true)(h0:w.cell? ⟨b,off+k,none⟩=some (.int .u8 t)):
    Calls Tryz.prog 123 #[.slice (some ⟨b,off,none⟩) (k+m) c,.int .i64 k] w fun e w'=>e=No 11∧w=w':=by
  have hck: ¬c=k:=by omega
  go_enter Tryz.func123,Tryz.ntmps123
  go_wp2
  refine wp_scope_jumps 0 (HeadStop w 11) (fun _ _=>0) rfl ?_ ?_
  · go_wp2_with (go_at_call 115;refine(endless_any _ _).mono ?_;rintro e w' ⟨rfl,rfl⟩;rw[ht])
    go_step3
    exact⟨rfl,rfl,rfl,rfl,rfl⟩
  · rintro⟨tmps,defers⟩ w' ⟨rfl,rfl,hs,h7⟩
    go_wp2
    simp only[Exit.jump]
    refine bodyPost_ret (results_tmp4 rfl _ _ _) rfl ?_
    simp[hs,No]

set_option maxRecDepth 100000 in
set_option maxHeartbeats 400000 in
theorem head_one (b off k c:Nat)(t:Int)(w:World)(hnc:k+1≤c)(hmax:k+1≤9223372036854775807)(ht:endlessB t=false)(h0:w.cell? ⟨b,off+k,none⟩=some (.int .u8 t)):
    Calls Tryz.prog 123 #[.slice (some ⟨b,off,none⟩) (k+1) c,.int .i64 k] w fun e w'=>e=No 12∧w=w':=by
  have hck: ¬c=k:=by omega
  go_enter Tryz.func123,Tryz.ntmps123
  go_wp2
  refine wp_scope_jumps 0 (HeadStop w 12) (fun _ _=>0) rfl ?_ ?_
  · go_wp2_with (go_at_call 115;refine(endless_any _ _).mono ?_;rintro e w' ⟨rfl,rfl⟩;rw[ht])
    go_step3
    exact⟨rfl,rfl,rfl,rfl,rfl⟩
  · rintro⟨tmps,defers⟩ w' ⟨rfl,rfl,hs,h7⟩
    go_wp2
    simp only[Exit.jump]
    refine bodyPost_ret (results_tmp4 rfl _ _ _) rfl ?_
    simp[hs,No]

set_option maxRecDepth 100000 in
set_option maxHeartbeats 400000 in
theorem head_len (b off k m c:Nat)(t f:Int)(w:World)(hm:2≤m)(hnc:k+m≤c)(hmax:k+m≤9223372036854775807)(ht:endlessB t=false)(h0:w.cell? ⟨b,off+k,none⟩=some (.int .u8 t))(h1:w.cell? ⟨b,off+k+1,none⟩=some (.int .u8 f))
    (hf0:0≤f) (hf1:f≤255) (hf:f=128∨130<f):
    Calls Tryz.prog 123 #[.slice (some ⟨b,off,none⟩) (k+m) c,.int .i64 k] w fun e w'=>e=No 13∧w=w':=by
  have hck: ¬c=k:=by omega
  have h128:(f==128)=true∨((f==128)=false∧130<f):=by rcases hf with rfl |h;exact .inl rfl;exact .inr ⟨by simp;omega,h⟩
  clear hf
  go_enter Tryz.func123,Tryz.ntmps123
  go_wp2
  refine wp_scope_jumps 0 (HeadStop w 13) (fun _ _=>0) rfl ?_ ?_
  · rcases h128 with hx | ⟨hx,hy⟩
    · go_wp2_with (go_at_call 115;refine(endless_any _ _).mono ?_;rintro e w' ⟨rfl,rfl⟩;rw[ht])
      go_step3
      exact⟨rfl,rfl,rfl,rfl,rfl⟩
    · go_wp2_with (go_at_call 115;refine(endless_any _ _).mono ?_;rintro e w' ⟨rfl,rfl⟩;rw[ht])
      go_step3
      exact⟨rfl,rfl,rfl,rfl,rfl⟩
  · rintro⟨tmps,defers⟩ w' ⟨rfl,rfl,hs,h7⟩
    go_wp2
    simp only[Exit.jump]
    refine bodyPost_ret (results_tmp4 rfl _ _ _) rfl ?_
    simp[hs,No]

theorem fol_s (n:Int)(w:World)(h0:0≤n)(h:n<128):
    Calls Tryz.prog 141 #[.int .u8 n] w fun e w'=>e=.returned (.int .i64 0)∧w=w':=
  (following_any n w h0 (by omega)).mono fun e w' ⟨he,hw⟩=>⟨by rw[he,if_pos h],hw⟩
theorem fol_m (n m:Int)(w:World)(h0:n=128+m)(h1:0≤m)(h:n≤255):
    Calls Tryz.prog 141 #[.int .u8 n] w fun e w'=>e=.returned (.int .i64 m)∧w=w':=
  (following_any n w (by omega) h).mono fun e w' ⟨he,hw⟩=>⟨by rw[he,if_neg (by omega),show n - 128=m by omega],hw⟩

set_option maxRecDepth 100000 in
set_option maxHeartbeats 400000 in
theorem head_s_no (b off k m c:Nat)(t f:Int)(w:World)(hnc:k+m≤c)(hmax:k+m≤9223372036854775807)(ht:endlessB t=false)(h0:w.cell? ⟨b,off+k,none⟩=some (.int .u8 t))(h1:w.cell? ⟨b,off+k+1,none⟩=some (.int .u8 f))
    (hf0:0≤f) (hf1:f<128) (hm:2≤m) (hB:Bys w (some ⟨b,off+k+1,none⟩) 1 [f]) (hx:(m:Int) - 2<f):
    Calls Tryz.prog 123 #[.slice (some ⟨b,off,none⟩) (k+m) c,.int .i64 k] w fun e w'=>e=No 12∧w=w':=by
  have hck: ¬c=k:=by omega
  have hw:widthN f=1:=by simp[widthN,hf1]
  have hne:(f==128)=false:=by simp;omega
  go_enter Tryz.func123,Tryz.ntmps123
  go_wp2
  refine wp_scope_jumps 0 (HeadStop w 12) (fun _ _=>0) rfl ?_ ?_
  · go_wp2_with (first | (go_at_call 115;refine(endless_any _ _).mono ?_;rintro e w' ⟨rfl,rfl⟩;rw[ht]) | (go_at_call 141;refine(fol_s _ _ hf0 hf1).mono ?_;rintro e w' ⟨rfl,rfl⟩) | (go_at_call 142;refine(length_1 _ _ _ _ hB).mono ?_;rintro e w' ⟨rfl,rfl⟩) | (go_at_call 116;refine(width_any _ _).mono ?_;rintro e w' ⟨rfl,rfl⟩;rw[hw]))
    go_step3
    exact⟨rfl,rfl,rfl,rfl,rfl⟩
  · rintro⟨tmps,defers⟩ w' ⟨rfl,rfl,hs,h7⟩
    go_wp2
    simp only[Exit.jump]
    refine bodyPost_ret (results_tmp4 rfl _ _ _) rfl ?_
    simp[hs,No]

set_option maxRecDepth 100000 in
set_option maxHeartbeats 400000 in
theorem head_s_ok (b off k m c:Nat)(t f:Int)(w:World)(hnc:k+m≤c)(hmax:k+m≤9223372036854775807)(ht:endlessB t=false)(h0:w.cell? ⟨b,off+k,none⟩=some (.int .u8 t))(h1:w.cell? ⟨b,off+k+1,none⟩=some (.int .u8 f))
    (hf0:0≤f) (hf1:f<128) (hm:2≤m) (hB:Bys w (some ⟨b,off+k+1,none⟩) 1 [f]) (hx:f≤(m:Int) - 2):
    Calls Tryz.prog 123 #[.slice (some ⟨b,off,none⟩) (k+m) c,.int .i64 k] w fun e w'=>e=Yes t (k+2) (k+2+f)∧w=w':=by
  have hck: ¬c=k:=by omega
  have hw:widthN f=1:=by simp[widthN,hf1]
  have hne:(f==128)=false:=by simp;omega
  go_enter Tryz.func123,Tryz.ntmps123
  go_wp2
  go_step3
  go_wp2_with (first | (go_at_call 115;refine(endless_any _ _).mono ?_;rintro e w' ⟨rfl,rfl⟩;rw[ht]) | (go_at_call 141;refine(fol_s _ _ hf0 hf1).mono ?_;rintro e w' ⟨rfl,rfl⟩) | (go_at_call 142;refine(length_1 _ _ _ _ hB).mono ?_;rintro e w' ⟨rfl,rfl⟩) | (go_at_call 116;refine(width_any _ _).mono ?_;rintro e w' ⟨rfl,rfl⟩;rw[hw]))
  rw[Exit.noGoto_ret]
  refine bodyPost_ret (results_tmp4 rfl _ _ _) rfl ?_
  exact⟨rfl,rfl⟩
end Go.Proofs.YtconbejjagcnkaaGreatDoor.tlvd
namespace Go.Proofs.YtconbejjagcnkaaGreatDoor.tlvd
open Go.RowKit Go.Proofs.YtconbejjagcnkaaGreatDoor.tlvc
set_option linter.unusedVariables false

set_option maxRecDepth 100000 in
set_option maxHeartbeats 400000 in
theorem head_m_cut (b off k m c:Nat)(t:Int)(w:World)(hnc:k+m≤c)(hmax:k+m≤9223372036854775807)(ht:endlessB t=false)(h0:w.cell? ⟨b,off+k,none⟩=some (.int .u8 t))(h1:w.cell? ⟨b,off+k+1,none⟩=some (.int .u8 129))
    (hm:m=2):
    Calls Tryz.prog 123 #[.slice (some ⟨b,off,none⟩) (k+m) c,.int .i64 k] w fun e w'=>e=No 12∧w=w':=by
  have hck: ¬c=k:=by omega
  subst hm
  go_enter Tryz.func123,Tryz.ntmps123
  go_wp2
  refine wp_scope_jumps 0 (HeadStop w 12) (fun _ _=>0) rfl ?_ ?_
  · go_wp2_with (first | (go_at_call 115;refine(endless_any _ _).mono ?_;rintro e w' ⟨rfl,rfl⟩;rw[ht]) | (go_at_call 141;refine(fol_m 129 1 _ (by decide) (by decide) (by decide)).mono ?_;rintro e w' ⟨rfl,rfl⟩))
    go_step3
    exact⟨rfl,rfl,rfl,rfl,rfl⟩
  · rintro⟨tmps,defers⟩ w' ⟨rfl,rfl,hs,h7⟩
    go_wp2
    simp only[Exit.jump]
    refine bodyPost_ret (results_tmp4 rfl _ _ _) rfl ?_
    simp[hs,No]

set_option maxRecDepth 100000 in
set_option maxHeartbeats 400000 in
theorem head_m_long (b off k m c:Nat)(t x:Int)(w:World)(hnc:k+m≤c)(hmax:k+m≤9223372036854775807)(ht:endlessB t=false)(h0:w.cell? ⟨b,off+k,none⟩=some (.int .u8 t))(h1:w.cell? ⟨b,off+k+1,none⟩=some (.int .u8 129))
    (hm:3≤m) (hx0:0≤x) (hx1:x≤255) (hB:Bys w (some ⟨b,off+k+1,none⟩) 2 [129,x]) (hx:x<128):
    Calls Tryz.prog 123 #[.slice (some ⟨b,off,none⟩) (k+m) c,.int .i64 k] w fun e w'=>e=No 13∧w=w':=by
  have hck: ¬c=k:=by omega
  have hw:widthN x=1:=by simp[widthN,hx]
  go_enter Tryz.func123,Tryz.ntmps123
  go_wp2
  refine wp_scope_jumps 0 (HeadStop w 13) (fun _ _=>0) rfl ?_ ?_
  · go_wp2_with (first | (go_at_call 115;refine(endless_any _ _).mono ?_;rintro e w' ⟨rfl,rfl⟩;rw[ht]) | (go_at_call 141;refine(fol_m 129 1 _ (by decide) (by decide) (by decide)).mono ?_;rintro e w' ⟨rfl,rfl⟩) | (go_at_call 142;refine(length_2 _ _ _ _ _ (by omega) hB).mono ?_;rintro e w' ⟨rfl,rfl⟩) | (go_at_call 116;refine(width_any _ _).mono ?_;rintro e w' ⟨rfl,rfl⟩;rw[hw]))
    go_step3
    exact⟨rfl,rfl,rfl,rfl,rfl⟩
  · rintro⟨tmps,defers⟩ w' ⟨rfl,rfl,hs,h7⟩
    go_wp2
    simp only[Exit.jump]
    refine bodyPost_ret (results_tmp4 rfl _ _ _) rfl ?_
    simp[hs,No]

set_option maxRecDepth 100000 in
set_option maxHeartbeats 400000 in
theorem head_m_no (b off k m c:Nat)(t x:Int)(w:World)(hnc:k+m≤c)(hmax:k+m≤9223372036854775807)(ht:endlessB t=false)(h0:w.cell? ⟨b,off+k,none⟩=some (.int .u8 t))(h1:w.cell? ⟨b,off+k+1,none⟩=some (.int .u8 129))
    (hm:3≤m) (hx0:0≤x) (hx1:x≤255) (hB:Bys w (some ⟨b,off+k+1,none⟩) 2 [129,x]) (hx:128≤x) (hy:(m:Int) - 3<x):
    Calls Tryz.prog 123 #[.slice (some ⟨b,off,none⟩) (k+m) c,.int .i64 k] w fun e w'=>e=No 12∧w=w':=by
  have hck: ¬c=k:=by omega
  have hw:widthN x=2:=by simp[widthN,hx1];omega
  go_enter Tryz.func123,Tryz.ntmps123
  go_wp2
  refine wp_scope_jumps 0 (HeadStop w 12) (fun _ _=>0) rfl ?_ ?_
  · go_wp2_with (first | (go_at_call 115;refine(endless_any _ _).mono ?_;rintro e w' ⟨rfl,rfl⟩;rw[ht]) | (go_at_call 141;refine(fol_m 129 1 _ (by decide) (by decide) (by decide)).mono ?_;rintro e w' ⟨rfl,rfl⟩) | (go_at_call 142;refine(length_2 _ _ _ _ _ (by omega) hB).mono ?_;rintro e w' ⟨rfl,rfl⟩) | (go_at_call 116;refine(width_any _ _).mono ?_;rintro e w' ⟨rfl,rfl⟩;rw[hw]))
    go_step3
    exact⟨rfl,rfl,rfl,rfl,rfl⟩
  · rintro⟨tmps,defers⟩ w' ⟨rfl,rfl,hs,h7⟩
    go_wp2
    simp only[Exit.jump]
    refine bodyPost_ret (results_tmp4 rfl _ _ _) rfl ?_
    simp[hs,No]

set_option maxRecDepth 100000 in
set_option maxHeartbeats 400000 in
theorem head_m_ok (b off k m c:Nat)(t x:Int)(w:World)(hnc:k+m≤c)(hmax:k+m≤9223372036854775807)(ht:endlessB t=false)(h0:w.cell? ⟨b,off+k,none⟩=some (.int .u8 t))(h1:w.cell? ⟨b,off+k+1,none⟩=some (.int .u8 129))
    (hm:3≤m) (hx0:0≤x) (hx1:x≤255) (hB:Bys w (some ⟨b,off+k+1,none⟩) 2 [129,x]) (hx:128≤x) (hy:x≤(m:Int) - 3):
    Calls Tryz.prog 123 #[.slice (some ⟨b,off,none⟩) (k+m) c,.int .i64 k] w fun e w'=>e=Yes t (k+3) (k+3+x)∧w=w':=by
  have hck: ¬c=k:=by omega
  have hw:widthN x=2:=by simp[widthN,hx1];omega
  go_enter Tryz.func123,Tryz.ntmps123
  go_wp2
  go_step3
  go_wp2_with (first | (go_at_call 115;refine(endless_any _ _).mono ?_;rintro e w' ⟨rfl,rfl⟩;rw[ht]) | (go_at_call 141;refine(fol_m 129 1 _ (by decide) (by decide) (by decide)).mono ?_;rintro e w' ⟨rfl,rfl⟩) | (go_at_call 142;refine(length_2 _ _ _ _ _ (by omega) hB).mono ?_;rintro e w' ⟨rfl,rfl⟩) | (go_at_call 116;refine(width_any _ _).mono ?_;rintro e w' ⟨rfl,rfl⟩;rw[hw]))
  rw[Exit.noGoto_ret]
  refine bodyPost_ret (results_tmp4 rfl _ _ _) rfl ?_
  exact⟨rfl,rfl⟩

set_option maxRecDepth 100000 in
set_option maxHeartbeats 400000 in
theorem head_l_cut (b off k m c:Nat)(t:Int)(w:World)(hnc:k+m≤c)(hmax:k+m≤9223372036854775807)(ht:endlessB t=false)(h0:w.cell? ⟨b,off+k,none⟩=some (.int .u8 t))(h1:w.cell? ⟨b,off+k+1,none⟩=some (.int .u8 130))
    (hm0:2≤m) (hm:m≤3):
    Calls Tryz.prog 123 #[.slice (some ⟨b,off,none⟩) (k+m) c,.int .i64 k] w fun e w'=>e=No 12∧w=w':=by
  have hck: ¬c=k:=by omega
  go_enter Tryz.func123,Tryz.ntmps123
  go_wp2
  refine wp_scope_jumps 0 (HeadStop w 12) (fun _ _=>0) rfl ?_ ?_
  · go_wp2_with (first | (go_at_call 115;refine(endless_any _ _).mono ?_;rintro e w' ⟨rfl,rfl⟩;rw[ht]) | (go_at_call 141;refine(fol_m 130 2 _ (by decide) (by decide) (by decide)).mono ?_;rintro e w' ⟨rfl,rfl⟩))
    go_step3
    exact⟨rfl,rfl,rfl,rfl,rfl⟩
  · rintro⟨tmps,defers⟩ w' ⟨rfl,rfl,hs,h7⟩
    go_wp2
    simp only[Exit.jump]
    refine bodyPost_ret (results_tmp4 rfl _ _ _) rfl ?_
    simp[hs,No]

set_option maxRecDepth 100000 in
set_option maxHeartbeats 400000 in
theorem head_l_long (b off k m c:Nat)(t x y:Int)(w:World)(hnc:k+m≤c)(hmax:k+m≤9223372036854775807)(ht:endlessB t=false)(h0:w.cell? ⟨b,off+k,none⟩=some (.int .u8 t))(h1:w.cell? ⟨b,off+k+1,none⟩=some (.int .u8 130))
    (hm:4≤m) (hx0:0≤x) (hx1:x≤255) (hy0:0≤y) (hy1:y≤255) (hB:Bys w (some ⟨b,off+k+1,none⟩) 3 [130,x,y]) (hx:x*256+y<256):
    Calls Tryz.prog 123 #[.slice (some ⟨b,off,none⟩) (k+m) c,.int .i64 k] w fun e w'=>e=No 13∧w=w':=by
  have hck: ¬c=k:=by omega
  obtain⟨v,hw,hv1,hv2⟩: ∃v:Int,widthN (x*256+y)=v∧1≤v∧v≤2:=⟨_,rfl,by unfold widthN;split;omega;split<;>omega,by unfold widthN;split;omega;rw[if_pos (by omega)];omega⟩
  go_enter Tryz.func123,Tryz.ntmps123
  go_wp2
  refine wp_scope_jumps 0 (HeadStop w 13) (fun _ _=>0) rfl ?_ ?_
  · go_wp2_with (first | (go_at_call 115;refine(endless_any _ _).mono ?_;rintro e w' ⟨rfl,rfl⟩;rw[ht]) | (go_at_call 141;refine(fol_m 130 2 _ (by decide) (by decide) (by decide)).mono ?_;rintro e w' ⟨rfl,rfl⟩) | (go_at_call 142;refine(length_3 _ _ _ _ _ _ (by omega) hB).mono ?_;rintro e w' ⟨rfl,rfl⟩) | (go_at_call 116;refine(width_any _ _).mono ?_;rintro e w' ⟨rfl,rfl⟩;rw[hw]))
    go_step3
    exact⟨rfl,rfl,rfl,rfl,rfl⟩
  · rintro⟨tmps,defers⟩ w' ⟨rfl,rfl,hs,h7⟩
    go_wp2
    simp only[Exit.jump]
    refine bodyPost_ret (results_tmp4 rfl _ _ _) rfl ?_
    simp[hs,No]

set_option maxRecDepth 100000 in
set_option maxHeartbeats 400000 in
theorem head_l_no (b off k m c:Nat)(t x y:Int)(w:World)(hnc:k+m≤c)(hmax:k+m≤9223372036854775807)(ht:endlessB t=false)(h0:w.cell? ⟨b,off+k,none⟩=some (.int .u8 t))(h1:w.cell? ⟨b,off+k+1,none⟩=some (.int .u8 130))
    (hm:4≤m) (hx0:0≤x) (hx1:x≤255) (hy0:0≤y) (hy1:y≤255) (hB:Bys w (some ⟨b,off+k+1,none⟩) 3 [130,x,y]) (hx:1≤x) (hz:(m:Int) - 4<x*256+y):
    Calls Tryz.prog 123 #[.slice (some ⟨b,off,none⟩) (k+m) c,.int .i64 k] w fun e w'=>e=No 12∧w=w':=by
  have hck: ¬c=k:=by omega
  have hw:widthN (x*256+y)=3:=by unfold widthN;rw[if_neg (by omega),if_neg (by omega)]
  go_enter Tryz.func123,Tryz.ntmps123
  go_wp2
  refine wp_scope_jumps 0 (HeadStop w 12) (fun _ _=>0) rfl ?_ ?_
  · go_wp2_with (first | (go_at_call 115;refine(endless_any _ _).mono ?_;rintro e w' ⟨rfl,rfl⟩;rw[ht]) | (go_at_call 141;refine(fol_m 130 2 _ (by decide) (by decide) (by decide)).mono ?_;rintro e w' ⟨rfl,rfl⟩) | (go_at_call 142;refine(length_3 _ _ _ _ _ _ (by omega) hB).mono ?_;rintro e w' ⟨rfl,rfl⟩) | (go_at_call 116;refine(width_any _ _).mono ?_;rintro e w' ⟨rfl,rfl⟩;rw[hw]))
    go_step3
    exact⟨rfl,rfl,rfl,rfl,rfl⟩
  · rintro⟨tmps,defers⟩ w' ⟨rfl,rfl,hs,h7⟩
    go_wp2
    simp only[Exit.jump]
    refine bodyPost_ret (results_tmp4 rfl _ _ _) rfl ?_
    simp[hs,No]

set_option maxRecDepth 100000 in
set_option maxHeartbeats 400000 in
theorem head_l_ok (b off k m c:Nat)(t x y:Int)(w:World)(hnc:k+m≤c)(hmax:k+m≤9223372036854775807)(ht:endlessB t=false)(h0:w.cell? ⟨b,off+k,none⟩=some (.int .u8 t))(h1:w.cell? ⟨b,off+k+1,none⟩=some (.int .u8 130))
    (hm:4≤m) (hx0:0≤x) (hx1:x≤255) (hy0:0≤y) (hy1:y≤255) (hB:Bys w (some ⟨b,off+k+1,none⟩) 3 [130,x,y]) (hx:1≤x) (hz:x*256+y≤(m:Int) - 4):
    Calls Tryz.prog 123 #[.slice (some ⟨b,off,none⟩) (k+m) c,.int .i64 k] w fun e w'=>e=Yes t (k+4) (k+4+ (x*256+y))∧w=w':=by
  have hck: ¬c=k:=by omega
  have hw:widthN (x*256+y)=3:=by unfold widthN;rw[if_neg (by omega),if_neg (by omega)]
  go_enter Tryz.func123,Tryz.ntmps123
  go_wp2
  go_step3
  go_wp2_with (first | (go_at_call 115;refine(endless_any _ _).mono ?_;rintro e w' ⟨rfl,rfl⟩;rw[ht]) | (go_at_call 141;refine(fol_m 130 2 _ (by decide) (by decide) (by decide)).mono ?_;rintro e w' ⟨rfl,rfl⟩) | (go_at_call 142;refine(length_3 _ _ _ _ _ _ (by omega) hB).mono ?_;rintro e w' ⟨rfl,rfl⟩) | (go_at_call 116;refine(width_any _ _).mono ?_;rintro e w' ⟨rfl,rfl⟩;rw[hw]))
  rw[Exit.noGoto_ret]
  refine bodyPost_ret (results_tmp4 rfl _ _ _) rfl ?_
  exact⟨rfl,rfl⟩
end Go.Proofs.YtconbejjagcnkaaGreatDoor.tlvd
namespace Go.Proofs.YtconbejjagcnkaaGreatDoor.tlvd
open Go.RowKit Go.Proofs.YtconbejjagcnkaaGreatDoor.tlvc
set_option linter.unusedVariables false

/-- What stands at the beginning of some bytes: an error (0: none), the tag, how many bytes tag and length have, how many the body has. -/
def headF:List Int→Int × Int × Int × Int
  | []=>(12,0,0,0)
  | [t]=>if endlessB t=true then (11,0,0,0) else (12,0,0,0)
  |t::f::r=>
   if endlessB t=true then (11,0,0,0)
   else if f=128∨130<f then (13,0,0,0)
   else if f<128 then (if (r.length:Int)<f then (12,0,0,0) else (0,t,2,f))
   else if f=129 then
     match r with
     | []=>(12,0,0,0)
     |x::r2=>if x<128 then (13,0,0,0) else if (r2.length:Int)<x then (12,0,0,0) else (0,t,3,x)
   else
     match r with
     |x::y::r2=>if x*256+y<256 then (13,0,0,0) else if (r2.length:Int)<x*256+y then (12,0,0,0) else (0,t,4,x*256+y)
     |_=>(12,0,0,0)

theorem headF_one (t:Int):headF [t]=if endlessB t=true then (11,0,0,0) else (12,0,0,0):=rfl
theorem headF_tag (t f:Int)(r:List Int)(h:endlessB t=true):headF (t::f::r)=(11,0,0,0):=by simp[headF,h]
theorem headF_len (t f:Int)(r:List Int)(h: ¬endlessB t=true)(hf:f=128∨130<f):headF (t::f::r)=(13,0,0,0):=by simp[headF,h,hf]
theorem headF_s (t f:Int)(r:List Int)(h: ¬endlessB t=true)(hf:f<128):headF (t::f::r)=if (r.length:Int)<f then (12,0,0,0) else (0,t,2,f):=by
  simp[headF,h,hf,show¬(f=128∨130<f) by omega]
theorem headF_m0 (t:Int)(h: ¬endlessB t=true):headF [t,129]=(12,0,0,0):=by simp[headF,h]
theorem headF_m (t x:Int)(r:List Int)(h: ¬endlessB t=true):headF (t::129::x::r)=if x<128 then (13,0,0,0) else if (r.length:Int)<x then (12,0,0,0) else (0,t,3,x):=by simp[headF,h]
theorem headF_l0 (t:Int)(h: ¬endlessB t=true):headF [t,130]=(12,0,0,0):=by simp[headF,h]
theorem headF_l1 (t x:Int)(h: ¬endlessB t=true):headF [t,130,x]=(12,0,0,0):=by simp[headF,h]
theorem headF_l (t x y:Int)(r:List Int)(h: ¬endlessB t=true):headF (t::130::x::y::r)=if x*256+y<256 then (13,0,0,0) else if (r.length:Int)<x*256+y then (12,0,0,0) else (0,t,4,x*256+y):=by simp[headF,h]

/-- The same, as the call answers it at the place at. -/
def headR (a:Int)(r:Int × Int × Int × Int):Ending:=if r.1=0 then Yes r.2.1 (a+r.2.2.1) (a+r.2.2.1+r.2.2.2) else No r.1
def headE (a:Int)(xs:List Int):Ending:=if a<0∨(xs.length:Int)<a then No 1 else headR a (headF (xs.drop a.toNat))

/-- The ways of a function that answers as Head does. -/
structure Ways (F:FuncId) (R:World→World→Prop):Prop where
  arg: ∀(A:Option Addr) (n c:Nat) (a:Int) (w:World),(a<0∨(n:Int)<a)→Calls Tryz.prog F #[.slice A n c,.int .i64 a] w fun e w'=>e=No 1∧R w w'
  endd: ∀(A:Option Addr) (n c:Nat) (w:World),n≤c→n≤maxLen→Calls Tryz.prog F #[.slice A n c,.int .i64 n] w fun e w'=>e=No 12∧R w w'
  tag: ∀(b off k m c:Nat) (t:Int) (w:World),1≤m→k+m≤c→k+m≤9223372036854775807→endlessB t=true→(0≤t∧t≤255)→w.cell? ⟨b,off+k,none⟩=some (.int .u8 t)→
    Calls Tryz.prog F #[.slice (some ⟨b,off,none⟩) (k+m) c,.int .i64 k] w fun e w'=>e=No 11∧R w w'
  one: ∀(b off k c:Nat) (t:Int) (w:World),k+1≤c→k+1≤9223372036854775807→endlessB t=false→(0≤t∧t≤255)→w.cell? ⟨b,off+k,none⟩=some (.int .u8 t)→
    Calls Tryz.prog F #[.slice (some ⟨b,off,none⟩) (k+1) c,.int .i64 k] w fun e w'=>e=No 12∧R w w'
  len: ∀(b off k m c:Nat) (t f:Int) (w:World),2≤m→k+m≤c→k+m≤9223372036854775807→endlessB t=false→(0≤t∧t≤255)→w.cell? ⟨b,off+k,none⟩=some (.int .u8 t)→w.cell? ⟨b,off+k+1,none⟩=some (.int .u8 f)→
    0≤f→f≤255→(f=128∨130<f)→Calls Tryz.prog F #[.slice (some ⟨b,off,none⟩) (k+m) c,.int .i64 k] w fun e w'=>e=No 13∧R w w'
  s_no: ∀(b off k m c:Nat) (t f:Int) (w:World),k+m≤c→k+m≤9223372036854775807→endlessB t=false→(0≤t∧t≤255)→w.cell? ⟨b,off+k,none⟩=some (.int .u8 t)→w.cell? ⟨b,off+k+1,none⟩=some (.int .u8 f)→
    0≤f→f<128→2≤m→Bys w (some ⟨b,off+k+1,none⟩) 1 [f]→(m:Int) - 2<f→Calls Tryz.prog F #[.slice (some ⟨b,off,none⟩) (k+m) c,.int .i64 k] w fun e w'=>e=No 12∧R w w'
  s_ok: ∀(b off k m c:Nat) (t f:Int) (w:World),k+m≤c→k+m≤9223372036854775807→endlessB t=false→(0≤t∧t≤255)→w.cell? ⟨b,off+k,none⟩=some (.int .u8 t)→w.cell? ⟨b,off+k+1,none⟩=some (.int .u8 f)→
    0≤f→f<128→2≤m→Bys w (some ⟨b,off+k+1,none⟩) 1 [f]→f≤(m:Int) - 2→Calls Tryz.prog F #[.slice (some ⟨b,off,none⟩) (k+m) c,.int .i64 k] w fun e w'=>e=Yes t (k+2) (k+2+f)∧R w w'
  m_cut: ∀(b off k m c:Nat) (t:Int) (w:World),k+m≤c→k+m≤9223372036854775807→endlessB t=false→(0≤t∧t≤255)→w.cell? ⟨b,off+k,none⟩=some (.int .u8 t)→w.cell? ⟨b,off+k+1,none⟩=some (.int .u8 129)→
    m=2→Calls Tryz.prog F #[.slice (some ⟨b,off,none⟩) (k+m) c,.int .i64 k] w fun e w'=>e=No 12∧R w w'
  m_long: ∀(b off k m c:Nat) (t x:Int) (w:World),k+m≤c→k+m≤9223372036854775807→endlessB t=false→(0≤t∧t≤255)→w.cell? ⟨b,off+k,none⟩=some (.int .u8 t)→w.cell? ⟨b,off+k+1,none⟩=some (.int .u8 129)→
    3≤m→0≤x→x≤255→Bys w (some ⟨b,off+k+1,none⟩) 2 [129,x]→x<128→Calls Tryz.prog F #[.slice (some ⟨b,off,none⟩) (k+m) c,.int .i64 k] w fun e w'=>e=No 13∧R w w'
  m_no: ∀(b off k m c:Nat) (t x:Int) (w:World),k+m≤c→k+m≤9223372036854775807→endlessB t=false→(0≤t∧t≤255)→w.cell? ⟨b,off+k,none⟩=some (.int .u8 t)→w.cell? ⟨b,off+k+1,none⟩=some (.int .u8 129)→
    3≤m→0≤x→x≤255→Bys w (some ⟨b,off+k+1,none⟩) 2 [129,x]→128≤x→(m:Int) - 3<x→Calls Tryz.prog F #[.slice (some ⟨b,off,none⟩) (k+m) c,.int .i64 k] w fun e w'=>e=No 12∧R w w'
  m_ok: ∀(b off k m c:Nat) (t x:Int) (w:World),k+m≤c→k+m≤9223372036854775807→endlessB t=false→(0≤t∧t≤255)→w.cell? ⟨b,off+k,none⟩=some (.int .u8 t)→w.cell? ⟨b,off+k+1,none⟩=some (.int .u8 129)→
    3≤m→0≤x→x≤255→Bys w (some ⟨b,off+k+1,none⟩) 2 [129,x]→128≤x→x≤(m:Int) - 3→Calls Tryz.prog F #[.slice (some ⟨b,off,none⟩) (k+m) c,.int .i64 k] w fun e w'=>e=Yes t (k+3) (k+3+x)∧R w w'
  l_cut: ∀(b off k m c:Nat) (t:Int) (w:World),k+m≤c→k+m≤9223372036854775807→endlessB t=false→(0≤t∧t≤255)→w.cell? ⟨b,off+k,none⟩=some (.int .u8 t)→w.cell? ⟨b,off+k+1,none⟩=some (.int .u8 130)→
    2≤m→m≤3→Calls Tryz.prog F #[.slice (some ⟨b,off,none⟩) (k+m) c,.int .i64 k] w fun e w'=>e=No 12∧R w w'
  l_long: ∀(b off k m c:Nat) (t x y:Int) (w:World),k+m≤c→k+m≤9223372036854775807→endlessB t=false→(0≤t∧t≤255)→w.cell? ⟨b,off+k,none⟩=some (.int .u8 t)→w.cell? ⟨b,off+k+1,none⟩=some (.int .u8 130)→
    4≤m→0≤x→x≤255→0≤y→y≤255→Bys w (some ⟨b,off+k+1,none⟩) 3 [130,x,y]→x*256+y<256→Calls Tryz.prog F #[.slice (some ⟨b,off,none⟩) (k+m) c,.int .i64 k] w fun e w'=>e=No 13∧R w w'
  l_no: ∀(b off k m c:Nat) (t x y:Int) (w:World),k+m≤c→k+m≤9223372036854775807→endlessB t=false→(0≤t∧t≤255)→w.cell? ⟨b,off+k,none⟩=some (.int .u8 t)→w.cell? ⟨b,off+k+1,none⟩=some (.int .u8 130)→
    4≤m→0≤x→x≤255→0≤y→y≤255→Bys w (some ⟨b,off+k+1,none⟩) 3 [130,x,y]→1≤x→(m:Int) - 4<x*256+y→Calls Tryz.prog F #[.slice (some ⟨b,off,none⟩) (k+m) c,.int .i64 k] w fun e w'=>e=No 12∧R w w'
  l_ok: ∀(b off k m c:Nat) (t x y:Int) (w:World),k+m≤c→k+m≤9223372036854775807→endlessB t=false→(0≤t∧t≤255)→w.cell? ⟨b,off+k,none⟩=some (.int .u8 t)→w.cell? ⟨b,off+k+1,none⟩=some (.int .u8 130)→
    4≤m→0≤x→x≤255→0≤y→y≤255→Bys w (some ⟨b,off+k+1,none⟩) 3 [130,x,y]→1≤x→x*256+y≤(m:Int) - 4→Calls Tryz.prog F #[.slice (some ⟨b,off,none⟩) (k+m) c,.int .i64 k] w fun e w'=>e=Yes t (k+4) (k+4+ (x*256+y))∧R w w'
theorem bys_at {w:World}{A:Option Addr}{n k:Nat}{xs ys:List Int}(h:Bys w A n xs)(hy:ys=xs.drop k)(hk:k<n):
    ∃b off,A=some ⟨b,off,none⟩∧b<w.heap.size∧∀j,j<ys.length→w.cell? ⟨b,off+k+j,none⟩=some (.int .u8 (ys.getD j 0)):=by
  obtain⟨b,off,hA,hb,hc⟩:=h.2.2 (by omega)
  refine⟨b,off,hA,hb,fun j hj=>?_⟩
  have hl:=h.1
  subst hy
  rw[List.length_drop] at hj
  rw[Nat.add_assoc,hc (k+j) (by omega)]
  simp[List.getD_eq_getElem?_getD,List.getElem?_drop]

theorem bys_mid {w:World}{b off n:Nat}{ys:List Int}(hb:b<w.heap.size)(hf:Fit ys)(hl:ys.length=n)(hc: ∀j,j<n→w.cell? ⟨b,off+j,none⟩=some (.int .u8 (ys.getD j 0))):Bys w (some ⟨b,off,none⟩) n ys:=
  ⟨hl,hf,fun _=>⟨b,off,rfl,hb,hc⟩⟩

set_option maxHeartbeats 1000000 in
theorem head_of {F:FuncId}{R:World→World→Prop}(W:Ways F R)(A:Option Addr)(n c:Nat)(xs:List Int)(a:Int)(w:World)(hb:Bys w A n xs)(hnc:n≤c)(hcm:c≤maxLen):
    Calls Tryz.prog F #[.slice A n c,.int .i64 a] w fun e w'=>e=headE a xs∧R w w':=by
  have hl:=hb.len
  by_cases ha:a<0∨(n:Int)<a
  · exact(W.arg A n c a w ha).mono fun e w' ⟨he,hw⟩=>⟨by rw[he,headE,if_pos (by rw[hl];exact ha)],hw⟩
  · obtain⟨k,rfl⟩:=Int.eq_ofNat_of_zero_le (show 0≤a by omega)
    have hE:headE k xs=headR k (headF (xs.drop k)):=by rw[headE,if_neg (by rw[hl];exact ha),Int.toNat_natCast]
    rw[hE]
    clear hE
    by_cases hk:k=n
    · subst hk
      rw[List.drop_of_length_le (by omega)]
      exact W.endd A k c w hnc (by omega)
    · obtain⟨ys,hys⟩: ∃ys,ys=xs.drop k:=⟨_,rfl⟩
      obtain⟨b,off,rfl,hbs,hc⟩:=bys_at hb hys (by omega)
      have hfit:Fit ys:=hys▸hb.fit.drop k
      rw[←hys]
      obtain⟨m,rfl⟩: ∃m,n=k+m:=⟨n - k,by omega⟩
      have hm:ys.length=m:=by rw[hys,List.length_drop];omega
      have hmax:k+m≤9223372036854775807:=by unfold maxLen at hcm;omega
      clear hys hb hl
      match ys,hm,hc,hfit with
      | [],hm,_,_=>simp at hm;omega
      | [t],hm,hc,hfit=>
        have h0:=hc 0 (by simp)
        simp only[List.length_singleton] at hm
        subst hm
        have htf:=hfit t (by simp)
        by_cases ht:endlessB t=true
        · rw[headF_one,if_pos ht]
          exact W.tag b off k 1 c t w (by omega) hnc hmax ht htf (by simpa using h0)
        · rw[headF_one,if_neg ht]
          exact W.one b off k c t w hnc hmax (by simpa using ht) htf (by simpa using h0)
      |t::f::r,hm,hc,hfit=>
       have h0:=hc 0 (by simp)
       have h1:=hc 1 (by simp)
       have htf:=hfit t (by simp)
       have hff:=hfit f (by simp)
       simp only[List.length_cons] at hm
       by_cases ht:endlessB t=true
       · rw[headF_tag t f r ht]
         exact W.tag b off k m c t w (by omega) hnc hmax ht htf (by simpa using h0)
       · have ht':endlessB t=false:=by simpa using ht
         by_cases hf:f=128∨130<f
         · rw[headF_len t f r ht hf]
           exact W.len b off k m c t f w (by omega) hnc hmax ht' htf (by simpa using h0) (by simpa using h1) hff.1 hff.2 hf
         · by_cases hs:f<128
           · rw[headF_s t f r ht hs]
             have hB:Bys w (some ⟨b,off+k+1,none⟩) 1 [f]:=bys_mid hbs (by intro x hx;simp at hx;omega) rfl (by
               intro j hj
               obtain rfl:j=0:=by omega
               simpa using h1)
             by_cases hx:(r.length:Int)<f
             · rw[if_pos hx]
               exact W.s_no b off k m c t f w hnc hmax ht' htf (by simpa using h0) (by simpa using h1) hff.1 hs (by omega) hB (by omega)
             · rw[if_neg hx]
               refine(W.s_ok b off k m c t f w hnc hmax ht' htf (by simpa using h0) (by simpa using h1) hff.1 hs (by omega) hB (by omega)).mono fun e w' ⟨he,hw⟩=>⟨?_,hw⟩
               rw[he];rfl
           · by_cases h9:f=129
             · subst h9
               match r,hm,hc,hfit with
               | [],hm,_,_=>
                 rw[headF_m0 t ht]
                 exact W.m_cut b off k m c t w hnc hmax ht' htf (by simpa using h0) (by simpa using h1) (by simp at hm;omega)
               |x::r2,hm,hc,hfit=>
                have hxf:=hfit x (by simp)
                have h2:=hc 2 (by simp)
                simp only[List.length_cons] at hm
                have hB:Bys w (some ⟨b,off+k+1,none⟩) 2 [129,x]:=bys_mid hbs (by intro z hz;simp at hz;omega) rfl (by
                  intro j hj
                  match j,hj with
                  |0,_=>simpa using h1
                  |1,_=>simpa[Nat.add_assoc] using h2)
                rw[headF_m t x r2 ht]
                by_cases hx:x<128
                · rw[if_pos hx]
                  exact W.m_long b off k m c t x w hnc hmax ht' htf (by simpa using h0) (by simpa using h1) (by omega) hxf.1 hxf.2 hB hx
                · rw[if_neg hx]
                  by_cases hy:(r2.length:Int)<x
                  · rw[if_pos hy]
                    exact W.m_no b off k m c t x w hnc hmax ht' htf (by simpa using h0) (by simpa using h1) (by omega) hxf.1 hxf.2 hB (by omega) (by omega)
                  · rw[if_neg hy]
                    refine(W.m_ok b off k m c t x w hnc hmax ht' htf (by simpa using h0) (by simpa using h1) (by omega) hxf.1 hxf.2 hB (by omega) (by omega)).mono fun e w' ⟨he,hw⟩=>⟨?_,hw⟩
                    rw[he];rfl
             · obtain rfl:f=130:=by omega
               match r,hm,hc,hfit with
               | [],hm,_,_=>
                 rw[headF_l0 t ht]
                 exact W.l_cut b off k m c t w hnc hmax ht' htf (by simpa using h0) (by simpa using h1) (by simp at hm;omega) (by simp at hm;omega)
               | [x],hm,_,_=>
                 rw[headF_l1 t x ht]
                 exact W.l_cut b off k m c t w hnc hmax ht' htf (by simpa using h0) (by simpa using h1) (by simp at hm;omega) (by simp at hm;omega)
               |x::y::r2,hm,hc,hfit=>
                have hxf:=hfit x (by simp)
                have hyf:=hfit y (by simp)
                have h2:=hc 2 (by simp)
                have h3:=hc 3 (by simp)
                simp only[List.length_cons] at hm
                have hB:Bys w (some ⟨b,off+k+1,none⟩) 3 [130,x,y]:=bys_mid hbs (by intro z hz;simp at hz;omega) rfl (by
                  intro j hj
                  match j,hj with
                  |0,_=>simpa using h1
                  |1,_=>simpa[Nat.add_assoc] using h2
                  |2,_=>simpa[Nat.add_assoc] using h3)
                rw[headF_l t x y r2 ht]
                by_cases hx:x*256+y<256
                · rw[if_pos hx]
                  exact W.l_long b off k m c t x y w hnc hmax ht' htf (by simpa using h0) (by simpa using h1) (by omega) hxf.1 hxf.2 hyf.1 hyf.2 hB hx
                · rw[if_neg hx]
                  by_cases hy:(r2.length:Int)<x*256+y
                  · rw[if_pos hy]
                    exact W.l_no b off k m c t x y w hnc hmax ht' htf (by simpa using h0) (by simpa using h1) (by omega) hxf.1 hxf.2 hyf.1 hyf.2 hB (by omega) (by omega)
                  · rw[if_neg hy]
                    refine(W.l_ok b off k m c t x y w hnc hmax ht' htf (by simpa using h0) (by simpa using h1) (by omega) hxf.1 hxf.2 hyf.1 hyf.2 hB (by omega) (by omega)).mono fun e w' ⟨he,hw⟩=>⟨?_,hw⟩
                    rw[he];rfl

theorem head_ways:Ways 123 (fun w w'=>w=w') where
  arg:=head_arg
  endd:=head_end
  tag:=fun b off k m c t w hm hnc hmax ht _ h0=>head_tag b off k m c t w hm hnc hmax ht h0
  one:=fun b off k c t w hnc hmax ht _ h0=>head_one b off k c t w hnc hmax ht h0
  len:=fun b off k m c t f w hm hnc hmax ht _ h0 h1 hf0 hf1 hf=>head_len b off k m c t f w hm hnc hmax ht h0 h1 hf0 hf1 hf
  s_no:=fun b off k m c t f w hnc hmax ht _=>head_s_no b off k m c t f w hnc hmax ht
  s_ok:=fun b off k m c t f w hnc hmax ht _=>head_s_ok b off k m c t f w hnc hmax ht
  m_cut:=fun b off k m c t  w hnc hmax ht _=>head_m_cut b off k m c t  w hnc hmax ht
  m_long:=fun b off k m c t x w hnc hmax ht _=>head_m_long b off k m c t x w hnc hmax ht
  m_no:=fun b off k m c t x w hnc hmax ht _=>head_m_no b off k m c t x w hnc hmax ht
  m_ok:=fun b off k m c t x w hnc hmax ht _=>head_m_ok b off k m c t x w hnc hmax ht
  l_cut:=fun b off k m c t  w hnc hmax ht _=>head_l_cut b off k m c t  w hnc hmax ht
  l_long:=fun b off k m c t x y w hnc hmax ht _=>head_l_long b off k m c t x y w hnc hmax ht
  l_no:=fun b off k m c t x y w hnc hmax ht _=>head_l_no b off k m c t x y w hnc hmax ht
  l_ok:=fun b off k m c t x y w hnc hmax ht _=>head_l_ok b off k m c t x y w hnc hmax ht
end Go.Proofs.YtconbejjagcnkaaGreatDoor.tlvd
namespace Go.Proofs.YtconbejjagcnkaaGreatDoor.tlvd
open Go.RowKit Go.Proofs.YtconbejjagcnkaaGreatDoor.tlvc
set_option linter.unusedVariables false

theorem bys_cell {w:World}{b off o n:Nat}{ys:List Int}(h:Bys w (some ⟨b,off,none⟩) n ys)(j:Nat)(hj:j<n)(ho:o=off+j):w.cell? ⟨b,o,none⟩=some (.int .u8 (ys.getD j 0)):=by
  obtain⟨b',off',hA,_,hc⟩:=h.2.2 (by omega)
  cases hA
  subst ho
  exact hc j hj

theorem ref_arg (A:Option Addr)(n c:Nat)(at_:Int)(w:World)(h:at_<0∨(n:Int)<at_):
    Calls Tryz.prog 101 #[.slice A n c,.int .i64 at_] w fun e w'=>e=No 1∧∃q,w'=w.drewN q:=by
  by_cases h0:at_<0
  · go_enter Tryz.func101,Tryz.ntmps101
    go_wp2
    refine bodyPost_ret (results_tmp4 rfl _ _ _) rfl ?_
    exact⟨rfl,0,rfl⟩
  · have h1:(n:Int)<at_:=by omega
    clear h
    go_enter Tryz.func101,Tryz.ntmps101
    go_wp2
    refine bodyPost_ret (results_tmp4 rfl _ _ _) rfl ?_
    exact⟨rfl,0,rfl⟩

theorem ref_end (A:Option Addr)(n c:Nat)(w:World)(hnc:n≤c)(hm:n≤maxLen):
    Calls Tryz.prog 101 #[.slice A n c,.int .i64 n] w fun e w'=>e=No 12∧∃q,w'=w.drewN q:=by
  unfold maxLen at hm
  go_enter Tryz.func101,Tryz.ntmps101
  go_wp2
  all_goals
    refine bodyPost_ret (results_tmp4 rfl _ _ _) rfl ?_
    exact⟨rfl,0,rfl⟩

set_option maxRecDepth 100000 in
set_option maxHeartbeats 400000 in
theorem ref_tag (b off k m c:Nat)(t:Int)(w:World)(hm:1≤m)(hnc:k+m≤c)(hmax:k+m≤9223372036854775807)(ht:endlessB t=true)(htf:0≤t∧t≤255)(h0:w.cell? ⟨b,off+k,none⟩=some (.int .u8 t)):
    Calls Tryz.prog 101 #[.slice (some ⟨b,off,none⟩) (k+m) c,.int .i64 k] w fun e w'=>e=No 11∧∃q,w'=w.drewN q:=by
  have hck: ¬c=k:=by omega
  have hmod:(t%32==31)=true:=by rw[←endless_mod t htf.1 htf.2];exact ht
  clear ht
  go_enter Tryz.func101,Tryz.ntmps101
  go_wp2
  refine bodyPost_ret (results_tmp4 rfl _ _ _) rfl ?_
  exact⟨rfl,0,rfl⟩

set_option maxRecDepth 100000 in
set_option maxHeartbeats 400000 in
theorem ref_one (b off k c:Nat)(t:Int)(w:World)(hnc:k+1≤c)(hmax:k+1≤9223372036854775807)(ht:endlessB t=false)(htf:0≤t∧t≤255)(h0:w.cell? ⟨b,off+k,none⟩=some (.int .u8 t)):
    Calls Tryz.prog 101 #[.slice (some ⟨b,off,none⟩) (k+1) c,.int .i64 k] w fun e w'=>e=No 12∧∃q,w'=w.drewN q:=by
  have hck: ¬c=k:=by omega
  have hmod:(t%32==31)=false:=by rw[←endless_mod t htf.1 htf.2];exact ht
  clear ht
  go_enter Tryz.func101,Tryz.ntmps101
  go_wp2
  refine bodyPost_ret (results_tmp4 rfl _ _ _) rfl ?_
  exact⟨rfl,0,rfl⟩

set_option maxRecDepth 100000 in
set_option maxHeartbeats 400000 in
theorem ref_len (b off k m c:Nat)(t f:Int)(w:World)(hm:2≤m)(hnc:k+m≤c)(hmax:k+m≤9223372036854775807)(ht:endlessB t=false)(htf:0≤t∧t≤255)(h0:w.cell? ⟨b,off+k,none⟩=some (.int .u8 t))(h1:w.cell? ⟨b,off+k+1,none⟩=some (.int .u8 f))
    (hf0:0≤f) (hf1:f≤255) (hf:f=128∨130<f):
    Calls Tryz.prog 101 #[.slice (some ⟨b,off,none⟩) (k+m) c,.int .i64 k] w fun e w'=>e=No 13∧∃q,w'=w.drewN q:=by
  have hck: ¬c=k:=by omega
  have hmod:(t%32==31)=false:=by rw[←endless_mod t htf.1 htf.2];exact ht
  clear ht
  by_cases h9:f=128
  · subst h9
    go_enter Tryz.func101,Tryz.ntmps101
    go_wp2
    refine bodyPost_ret (results_tmp4 rfl _ _ _) rfl ?_
    exact⟨rfl,0,rfl⟩
  · have h10:130<f:=by omega
    have hne:(f==128)=false:=by simp;omega
    clear hf h9
    go_enter Tryz.func101,Tryz.ntmps101
    go_wp2
    refine bodyPost_ret (results_tmp4 rfl _ _ _) rfl ?_
    exact⟨rfl,0,rfl⟩

set_option maxRecDepth 100000 in
set_option maxHeartbeats 400000 in
theorem ref_s_no (b off k m c:Nat)(t f:Int)(w:World)(hnc:k+m≤c)(hmax:k+m≤9223372036854775807)(ht:endlessB t=false)(htf:0≤t∧t≤255)(h0:w.cell? ⟨b,off+k,none⟩=some (.int .u8 t))(h1:w.cell? ⟨b,off+k+1,none⟩=some (.int .u8 f))
    (hf0:0≤f) (hf1:f<128) (hm:2≤m) (hB:Bys w (some ⟨b,off+k+1,none⟩) 1 [f]) (hx:(m:Int) - 2<f):Calls Tryz.prog 101 #[.slice (some ⟨b,off,none⟩) (k+m) c,.int .i64 k] w fun e w'=>e=No 12∧∃q,w'=w.drewN q:=by
  have hck: ¬c=k:=by omega
  have hmod:(t%32==31)=false:=by rw[←endless_mod t htf.1 htf.2];exact ht
  clear ht
  go_enter Tryz.func101,Tryz.ntmps101
  go_wp2
  refine bodyPost_ret (results_tmp4 rfl _ _ _) rfl ?_
  exact⟨rfl,0,rfl⟩

set_option maxRecDepth 100000 in
set_option maxHeartbeats 400000 in
theorem ref_s_ok (b off k m c:Nat)(t f:Int)(w:World)(hnc:k+m≤c)(hmax:k+m≤9223372036854775807)(ht:endlessB t=false)(htf:0≤t∧t≤255)(h0:w.cell? ⟨b,off+k,none⟩=some (.int .u8 t))(h1:w.cell? ⟨b,off+k+1,none⟩=some (.int .u8 f))
    (hf0:0≤f) (hf1:f<128) (hm:2≤m) (hB:Bys w (some ⟨b,off+k+1,none⟩) 1 [f]) (hx:f≤(m:Int) - 2):Calls Tryz.prog 101 #[.slice (some ⟨b,off,none⟩) (k+m) c,.int .i64 k] w fun e w'=>e=Yes t (k+2) (k+2+f)∧∃q,w'=w.drewN q:=by
  have hck: ¬c=k:=by omega
  have hmod:(t%32==31)=false:=by rw[←endless_mod t htf.1 htf.2];exact ht
  clear ht
  go_enter Tryz.func101,Tryz.ntmps101
  go_wp2
  refine bodyPost_ret (results_tmp4 rfl _ _ _) rfl ?_
  exact⟨rfl,0,rfl⟩

set_option maxRecDepth 100000 in
set_option maxHeartbeats 400000 in
theorem ref_m_cut (b off k m c:Nat)(t:Int)(w:World)(hnc:k+m≤c)(hmax:k+m≤9223372036854775807)(ht:endlessB t=false)(htf:0≤t∧t≤255)(h0:w.cell? ⟨b,off+k,none⟩=some (.int .u8 t))(h1:w.cell? ⟨b,off+k+1,none⟩=some (.int .u8 129))
    (hm:m=2):Calls Tryz.prog 101 #[.slice (some ⟨b,off,none⟩) (k+m) c,.int .i64 k] w fun e w'=>e=No 12∧∃q,w'=w.drewN q:=by
  have hck: ¬c=k:=by omega
  have hmod:(t%32==31)=false:=by rw[←endless_mod t htf.1 htf.2];exact ht
  clear ht
  subst hm
  go_enter Tryz.func101,Tryz.ntmps101
  go_wp2
  refine bodyPost_ret (results_tmp4 rfl _ _ _) rfl ?_
  exact⟨rfl,0,rfl⟩

set_option maxRecDepth 100000 in
set_option maxHeartbeats 400000 in
theorem ref_m_long (b off k m c:Nat)(t x:Int)(w:World)(hnc:k+m≤c)(hmax:k+m≤9223372036854775807)(ht:endlessB t=false)(htf:0≤t∧t≤255)(h0:w.cell? ⟨b,off+k,none⟩=some (.int .u8 t))(h1:w.cell? ⟨b,off+k+1,none⟩=some (.int .u8 129))
    (hm:3≤m) (hx0:0≤x) (hx1:x≤255) (hB:Bys w (some ⟨b,off+k+1,none⟩) 2 [129,x]) (hx:x<128):Calls Tryz.prog 101 #[.slice (some ⟨b,off,none⟩) (k+m) c,.int .i64 k] w fun e w'=>e=No 13∧∃q,w'=w.drewN q:=by
  have hck: ¬c=k:=by omega
  have hmod:(t%32==31)=false:=by rw[←endless_mod t htf.1 htf.2];exact ht
  clear ht
  have h2:w.cell? ⟨b,off+k+2,none⟩=some (.int .u8 x):=bys_cell hB 1 (by decide) (by omega)
  clear hB
  go_enter Tryz.func101,Tryz.ntmps101
  go_wp2
  refine bodyPost_ret (results_tmp4 rfl _ _ _) rfl ?_
  exact⟨rfl,0,rfl⟩

set_option maxRecDepth 100000 in
set_option maxHeartbeats 400000 in
theorem ref_m_no (b off k m c:Nat)(t x:Int)(w:World)(hnc:k+m≤c)(hmax:k+m≤9223372036854775807)(ht:endlessB t=false)(htf:0≤t∧t≤255)(h0:w.cell? ⟨b,off+k,none⟩=some (.int .u8 t))(h1:w.cell? ⟨b,off+k+1,none⟩=some (.int .u8 129))
    (hm:3≤m) (hx0:0≤x) (hx1:x≤255) (hB:Bys w (some ⟨b,off+k+1,none⟩) 2 [129,x]) (hx:128≤x) (hy:(m:Int) - 3<x):Calls Tryz.prog 101 #[.slice (some ⟨b,off,none⟩) (k+m) c,.int .i64 k] w fun e w'=>e=No 12∧∃q,w'=w.drewN q:=by
  have hck: ¬c=k:=by omega
  have hmod:(t%32==31)=false:=by rw[←endless_mod t htf.1 htf.2];exact ht
  clear ht
  have h2:w.cell? ⟨b,off+k+2,none⟩=some (.int .u8 x):=bys_cell hB 1 (by decide) (by omega)
  clear hB
  go_enter Tryz.func101,Tryz.ntmps101
  go_wp2
  refine bodyPost_ret (results_tmp4 rfl _ _ _) rfl ?_
  exact⟨rfl,0,rfl⟩

set_option maxRecDepth 100000 in
set_option maxHeartbeats 400000 in
theorem ref_m_ok (b off k m c:Nat)(t x:Int)(w:World)(hnc:k+m≤c)(hmax:k+m≤9223372036854775807)(ht:endlessB t=false)(htf:0≤t∧t≤255)(h0:w.cell? ⟨b,off+k,none⟩=some (.int .u8 t))(h1:w.cell? ⟨b,off+k+1,none⟩=some (.int .u8 129))
    (hm:3≤m) (hx0:0≤x) (hx1:x≤255) (hB:Bys w (some ⟨b,off+k+1,none⟩) 2 [129,x]) (hx:128≤x) (hy:x≤(m:Int) - 3):Calls Tryz.prog 101 #[.slice (some ⟨b,off,none⟩) (k+m) c,.int .i64 k] w fun e w'=>e=Yes t (k+3) (k+3+x)∧∃q,w'=w.drewN q:=by
  have hck: ¬c=k:=by omega
  have hmod:(t%32==31)=false:=by rw[←endless_mod t htf.1 htf.2];exact ht
  clear ht
  have h2:w.cell? ⟨b,off+k+2,none⟩=some (.int .u8 x):=bys_cell hB 1 (by decide) (by omega)
  clear hB
  go_enter Tryz.func101,Tryz.ntmps101
  go_wp2
  refine bodyPost_ret (results_tmp4 rfl _ _ _) rfl ?_
  exact⟨rfl,0,rfl⟩

set_option maxRecDepth 100000 in
set_option maxHeartbeats 400000 in
theorem ref_l_cut (b off k m c:Nat)(t:Int)(w:World)(hnc:k+m≤c)(hmax:k+m≤9223372036854775807)(ht:endlessB t=false)(htf:0≤t∧t≤255)(h0:w.cell? ⟨b,off+k,none⟩=some (.int .u8 t))(h1:w.cell? ⟨b,off+k+1,none⟩=some (.int .u8 130))
    (hm0:2≤m) (hm:m≤3):Calls Tryz.prog 101 #[.slice (some ⟨b,off,none⟩) (k+m) c,.int .i64 k] w fun e w'=>e=No 12∧∃q,w'=w.drewN q:=by
  have hck: ¬c=k:=by omega
  have hmod:(t%32==31)=false:=by rw[←endless_mod t htf.1 htf.2];exact ht
  clear ht
  go_enter Tryz.func101,Tryz.ntmps101
  go_wp2
  refine bodyPost_ret (results_tmp4 rfl _ _ _) rfl ?_
  exact⟨rfl,0,rfl⟩

set_option maxRecDepth 100000 in
set_option maxHeartbeats 400000 in
theorem ref_l_long (b off k m c:Nat)(t x y:Int)(w:World)(hnc:k+m≤c)(hmax:k+m≤9223372036854775807)(ht:endlessB t=false)(htf:0≤t∧t≤255)(h0:w.cell? ⟨b,off+k,none⟩=some (.int .u8 t))(h1:w.cell? ⟨b,off+k+1,none⟩=some (.int .u8 130))
    (hm:4≤m) (hx0:0≤x) (hx1:x≤255) (hy0:0≤y) (hy1:y≤255) (hB:Bys w (some ⟨b,off+k+1,none⟩) 3 [130,x,y]) (hx:x*256+y<256):Calls Tryz.prog 101 #[.slice (some ⟨b,off,none⟩) (k+m) c,.int .i64 k] w fun e w'=>e=No 13∧∃q,w'=w.drewN q:=by
  have hck: ¬c=k:=by omega
  have hmod:(t%32==31)=false:=by rw[←endless_mod t htf.1 htf.2];exact ht
  clear ht
  have h2:w.cell? ⟨b,off+k+2,none⟩=some (.int .u8 x):=bys_cell hB 1 (by decide) (by omega)
  have h3:w.cell? ⟨b,off+k+3,none⟩=some (.int .u8 y):=bys_cell hB 2 (by decide) (by omega)
  clear hB
  have ho:=or8 (x*256) y (by omega) (by omega) (by omega) (by omega) (by omega)
  go_enter Tryz.func101,Tryz.ntmps101
  go_wp2
  go_quiet (fail)
  go_wp2
  refine bodyPost_ret (results_tmp4 rfl _ _ _) rfl ?_
  exact⟨rfl,_,rfl⟩

set_option maxRecDepth 100000 in
set_option maxHeartbeats 400000 in
theorem ref_l_no (b off k m c:Nat)(t x y:Int)(w:World)(hnc:k+m≤c)(hmax:k+m≤9223372036854775807)(ht:endlessB t=false)(htf:0≤t∧t≤255)(h0:w.cell? ⟨b,off+k,none⟩=some (.int .u8 t))(h1:w.cell? ⟨b,off+k+1,none⟩=some (.int .u8 130))
    (hm:4≤m) (hx0:0≤x) (hx1:x≤255) (hy0:0≤y) (hy1:y≤255) (hB:Bys w (some ⟨b,off+k+1,none⟩) 3 [130,x,y]) (hx:1≤x) (hz:(m:Int) - 4<x*256+y):Calls Tryz.prog 101 #[.slice (some ⟨b,off,none⟩) (k+m) c,.int .i64 k] w fun e w'=>e=No 12∧∃q,w'=w.drewN q:=by
  have hck: ¬c=k:=by omega
  have hmod:(t%32==31)=false:=by rw[←endless_mod t htf.1 htf.2];exact ht
  clear ht
  have h2:w.cell? ⟨b,off+k+2,none⟩=some (.int .u8 x):=bys_cell hB 1 (by decide) (by omega)
  have h3:w.cell? ⟨b,off+k+3,none⟩=some (.int .u8 y):=bys_cell hB 2 (by decide) (by omega)
  clear hB
  have ho:=or8 (x*256) y (by omega) (by omega) (by omega) (by omega) (by omega)
  go_enter Tryz.func101,Tryz.ntmps101
  go_wp2
  go_quiet (fail)
  go_wp2
  refine bodyPost_ret (results_tmp4 rfl _ _ _) rfl ?_
  exact⟨rfl,_,rfl⟩

set_option maxRecDepth 100000 in
set_option maxHeartbeats 400000 in
theorem ref_l_ok (b off k m c:Nat)(t x y:Int)(w:World)(hnc:k+m≤c)(hmax:k+m≤9223372036854775807)(ht:endlessB t=false)(htf:0≤t∧t≤255)(h0:w.cell? ⟨b,off+k,none⟩=some (.int .u8 t))(h1:w.cell? ⟨b,off+k+1,none⟩=some (.int .u8 130))
    (hm:4≤m) (hx0:0≤x) (hx1:x≤255) (hy0:0≤y) (hy1:y≤255) (hB:Bys w (some ⟨b,off+k+1,none⟩) 3 [130,x,y]) (hx:1≤x) (hz:x*256+y≤(m:Int) - 4):Calls Tryz.prog 101 #[.slice (some ⟨b,off,none⟩) (k+m) c,.int .i64 k] w fun e w'=>e=Yes t (k+4) (k+4+ (x*256+y))∧∃q,w'=w.drewN q:=by
  have hck: ¬c=k:=by omega
  have hmod:(t%32==31)=false:=by rw[←endless_mod t htf.1 htf.2];exact ht
  clear ht
  have h2:w.cell? ⟨b,off+k+2,none⟩=some (.int .u8 x):=bys_cell hB 1 (by decide) (by omega)
  have h3:w.cell? ⟨b,off+k+3,none⟩=some (.int .u8 y):=bys_cell hB 2 (by decide) (by omega)
  clear hB
  have ho:=or8 (x*256) y (by omega) (by omega) (by omega) (by omega) (by omega)
  go_enter Tryz.func101,Tryz.ntmps101
  go_wp2
  go_quiet (fail)
  go_wp2
  refine bodyPost_ret (results_tmp4 rfl _ _ _) rfl ?_
  exact⟨rfl,_,rfl⟩

theorem ref_ways:Ways 101 (fun w w'=>∃q,w'=w.drewN q) where
  arg:=ref_arg
  endd:=ref_end
  tag:=ref_tag
  one:=ref_one
  len:=ref_len
  s_no:=ref_s_no
  s_ok:=ref_s_ok
  m_cut:=ref_m_cut
  m_long:=ref_m_long
  m_no:=ref_m_no
  m_ok:=ref_m_ok
  l_cut:=ref_l_cut
  l_long:=ref_l_long
  l_no:=ref_l_no
  l_ok:=ref_l_ok

end Go.Proofs.YtconbejjagcnkaaGreatDoor.tlvd
namespace Go.Proofs.YtconbejjagcnkaaGreatDoor.tlvd
open Go.RowKit Go.Proofs.YtconbejjagcnkaaGreatDoor.tlvc
set_option linter.unusedVariables false

theorem below_drewN {B:Nat}{a w:World}(h:Below B a w)(n:Nat):Below B a (w.drewN n):=⟨h.os,h.tape,h.output,h.size,h.block⟩

end Go.Proofs.YtconbejjagcnkaaGreatDoor.tlvd
namespace Go.Proofs.YtconbejjagcnkaaGreatDoor.tlvd
open Go.RowKit Go.Proofs.YtconbejjagcnkaaGreatDoor.tlvc
set_option linter.unusedVariables false

theorem str_now {w:World}{A:Option Addr}{n:Nat}{xs:List Int}(h:Bys w A n xs)(c:Nat):
    (convert 28 9 (.slice A n c)).run Tryz.prog w=.ok (.string (strOfNums xs)) w:=
  run_str (P:=Tryz.prog) 28 5 Tryz.underlying28 Tryz.underlying5 A n c xs h 9 Tryz.underlying9

theorem put_drop (t:Int)(xs:List Int)(k:Nat)(h:k=1+ (hdr xs.length).length):(putBytes t xs).drop k=xs:=by
  have e:putBytes t xs=([t]++hdr xs.length)++xs:=rfl
  rw[e]
  exact List.drop_left' (by simp;omega)
/-- What Put answers: the bytes and the error. -/
def putF (t:Int)(xs:List Int):List Int × Int:=if endlessB t=true then ([],11) else if 65535<xs.length then ([],2) else (putBytes t xs,0)

def PutAll (w:World)(ys:List Int)(er:Int)(e:Ending)(w':World):Prop:=
  ∃A c,e=.returned (.tuple #[.slice A ys.length c,.int .i64 er])∧Bys w' A ys.length ys∧(ys.length≤c∧c≤maxLen)∧(∀b off,A=some ⟨b,off,none⟩→w.heap.size≤b)∧Below w.heap.size w w'

theorem putAll_none (w:World)(n:Int):PutAll w [] n (.returned (.tuple #[.slice none 0 0,.int .i64 n])) w:=
  ⟨none,0,rfl,Bys.nil_ _ _,⟨Nat.le_refl _,Nat.zero_le _⟩,(fun _ _ h=>by cases h),Below.refl _ _⟩
theorem putAll_ok {w w':World}{ys:List Int}{e:Ending}(h:PutPost w ys e w'):PutAll w ys 0 e w':=by
  obtain⟨g,cap,rfl,hown,hb,hbel⟩:=h
  refine⟨_,cap,rfl,hb,⟨own_cap hown,own_max hown⟩,(fun b off h=>?_),hbel⟩
  cases h
  exact(hown.lt g rfl).1

theorem put_all (t:Int)(A:Option Addr)(n c:Nat)(xs:List Int)(w:World)(ht:0≤t∧t≤255)(hb:Bys w A n xs):
    Calls Tryz.prog 80 #[.int .u8 t,.slice A n c] w (PutAll w (putF t xs).1 (putF t xs).2):=by
  have hl:=hb.len
  unfold putF
  by_cases h:endlessB t=true
  · rw[if_pos h]
    refine(put_tag t A n c w h).mono ?_
    rintro e w' ⟨rfl,rfl⟩
    exact putAll_none w 11
  · have h':endlessB t=false:=by simpa using h
    rw[if_neg h]
    by_cases hn:65535<n
    · rw[if_pos (by omega)]
      refine(put_many t A n c w h' hn).mono ?_
      rintro e w' ⟨rfl,rfl⟩
      exact putAll_none w 2
    · rw[if_neg (by omega)]
      exact(put_ok t A n c xs w h' ht.1 ht.2 (by omega) hb).mono fun _ _ h=>putAll_ok h

theorem refPut_all (t:Int)(A:Option Addr)(n c:Nat)(xs:List Int)(w:World)(ht:0≤t∧t≤255)(hb:Bys w A n xs):
    Calls Tryz.prog 85 #[.int .u8 t,.slice A n c] w (PutAll w (putF t xs).1 (putF t xs).2):=by
  have hl:=hb.len
  unfold putF
  by_cases h:endlessB t=true
  · rw[if_pos h]
    refine(refPut_tag t A n c w h ht.1 ht.2).mono ?_
    rintro e w' ⟨rfl,rfl⟩
    exact putAll_none w 11
  · have h':endlessB t=false:=by simpa using h
    rw[if_neg h]
    by_cases hn:65535<n
    · rw[if_pos (by omega)]
      refine(refPut_many t A n c w h' ht.1 ht.2 hn).mono ?_
      rintro e w' ⟨rfl,rfl⟩
      exact putAll_none w 2
    · rw[if_neg (by omega)]
      exact(refPut_ok t A n c xs w h' ht.1 ht.2 (by omega) hb).mono fun _ _ h=>putAll_ok h
end Go.Proofs.YtconbejjagcnkaaGreatDoor.tlvd
