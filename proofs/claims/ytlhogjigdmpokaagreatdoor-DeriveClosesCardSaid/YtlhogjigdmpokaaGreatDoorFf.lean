/- What can be had of some: the program's Closure. -/
import Derived.Test.YtlhogjigdmpokaaGreatDoorFe
import Derived.Scope
namespace Go.Proofs.YtlhogjigdmpokaaGreatDoor.vtc
open Go.RowKit Go.Proofs.YtlhogjigdmpokaaGreatDoor.tlvc Go.Proofs.YtlhogjigdmpokaaGreatDoor.tmc Go.Proofs.YtlhogjigdmpokaaGreatDoor.rfc
set_option linter.unusedVariables false
attribute [local go_sem] Oper.semAt_some
theorem SI.begin {N : Nat} {WS : List Way} {hd td : List Bool} (hl : hd.length = N) (ht : td = List.replicate N false) (hf : ∀ w ∈ WS, w.needs ≠ []) : SI N WS hd hd td := by
  have h0 : ∀ n, td.getD n false = false := fun n => by
    rw [ht, List.getD_eq_getElem?_getD, List.getElem?_replicate]
    split <;> rfl
  refine ⟨hl, by rw [ht]; exact List.length_replicate, fun n hn => ?_, Sub.refl _, fun w hw hz => ?_, fun S _ h => h⟩
  · exact absurd (hn.symm.trans (h0 n)) (by simp)
  rw [lack_all h0] at hz
  exact absurd (List.eq_nil_of_length_eq_zero hz) (hf w hw)
theorem SI.rebase {N : Nat} {WS : List Way} {h0 hd td : List Bool} (s : SI N WS h0 hd td) : SI N WS hd hd td := ⟨s.lh, s.lt, s.told, Sub.refl _, s.clo, fun S _ h => h⟩
theorem SI.join {N : Nat} {WS : List Way} {h0 hd td hd' td' : List Bool} (s : SI N WS h0 hd td) (k : SI N WS hd hd' td') : SI N WS h0 hd' td' := ⟨k.lh, k.lt, k.told, s.sub.trans k.sub, k.clo, fun S h1 h2 => k.snd S h1 (s.snd S h1 h2)⟩
theorem lack_lt : ∀ {a b : List Bool}, Sub a b → (b ≠ a → lackB b < lackB a) ∧ lackB b ≤ lackB a
  | [], [], _ => ⟨fun h => absurd rfl h, Nat.le_refl _⟩
  | [], _ :: _, h => by have := h.1; simp at this
  | _ :: _, [], h => by have := h.1; simp at this
  | x :: a, y :: b, h => by
    obtain ⟨i1, i2⟩ := lack_lt h.tail
    have hxy : x = true → y = true := fun e => by
      have h0 := h.2 0 (by unfold SB; rw [e]; rfl)
      exact h0
    have e1 : ∀ (z : Bool) (l : List Bool), lackB (z :: l) = lackB l + (if z = true then 0 else 1) := fun z l => by
      unfold lackB
      cases z <;> simp
    rw [e1, e1]
    cases x <;> cases y
    · refine ⟨fun hne => ?_, by simpa using i2⟩
      have := i1 (fun e => hne (by rw [e]))
      simp
      omega
    · exact ⟨fun _ => by simp; omega, by simp; omega⟩
    · exact absurd (hxy rfl) (by simp)
    · refine ⟨fun hne => ?_, by simpa using i2⟩
      have := i1 (fun e => hne (by rw [e]))
      simp
      omega
/-- The search on its way. -/
structure CI (w : World) (L : List Tm) (Bs sb hb tb rb : Nat) (K : Nat → Tag) (PS : List Plc) (RJ : Nat → List Nat) (h0 hd td : List Bool) (W : World) : Prop where
  sch : Sch w.heap.size K W sb hb tb rb hd td (lkT td (PS.map Plc.way)) RJ PS
  si : SI L.length (PS.map Plc.way) h0 hd td
  hs : W.heap[Bs]? = some (.cells #[.pointer (some ⟨sb, 0, none⟩)] 62)
  bel : Below w.heap.size w W
/-- The marks of the loops that have ended. -/
structure DS (w : World) (ds : List Deferred) (W : World) : Prop where
  mks : ∀ d ∈ ds, ∃ D, d = ({ target := .collected D, args := #[] } : Deferred) ∧ w.heap.size ≤ D
  nd : ds.Nodup
  at_ : ∀ D, ({ target := .collected D, args := #[] } : Deferred) ∈ ds → W.heap[D]? = some (.deferred (some []))
section
variable {w : World} {L : List Tm} {Bs sb hb tb rb : Nat} {K : Nat → Tag} {PS : List Plc} {RJ : Nat → List Nat} {h0 hd td : List Bool} {W W' : World} {ds : List Deferred}
theorem CI.free (h : CI w L Bs sb hb tb rb K PS RJ h0 hd td W) {g : Nat} {o : Obj} (hg : W.heap[g]? = some o) (ho : o.isCells = false) : K g = .other :=
  Classical.byContradiction fun hne => by have := h.sch.cell g o hne hg; rw [ho] at this; cases this
theorem CI.grown (h : CI w L Bs sb hb tb rb K PS RJ h0 hd td W) {row : Option Nat} (hg : W.grownBy W' row) (hr : ∀ r, row = some r → w.heap.size ≤ r ∧ ∃ o : Obj, W.heap[r]? = some o ∧ o.isCells = false) : CI w L Bs sb hb tb rb K PS RJ h0 hd td W' :=
  ⟨h.sch.grown hg fun r e => ⟨by obtain ⟨_, o, ho, hoc⟩ := hr r e; exact h.free ho hoc, (hr r e).2⟩, h.si, (hg.block Bs (Array.getElem?_eq_some_iff.1 h.hs).1 (fun e => by obtain ⟨_, o, ho, hoc⟩ := hr Bs e.symm; rw [h.hs] at ho; cases ho; cases hoc)).trans h.hs, h.bel.grown hg h.bel.size (fun r e => (hr r e).1)⟩
theorem CI.below (h : CI w L Bs sb hb tb rb K PS RJ h0 hd td W) (hb' : Below W.heap.size W W') : CI w L Bs sb hb tb rb K PS RJ h0 hd td W' := h.grown (grown_of_below hb' none) (fun r e => by cases e)
theorem DS.keep (h : DS w ds W) (hk : ∀ D, ({ target := .collected D, args := #[] } : Deferred) ∈ ds → W'.heap[D]? = W.heap[D]?) : DS w ds W' := ⟨h.mks, h.nd, fun D hD => (hk D hD).trans (h.at_ D hD)⟩
theorem DS.lt (h : DS w ds W) {D : Nat} (hD : ({ target := .collected D, args := #[] } : Deferred) ∈ ds) : D < W.heap.size := (Array.getElem?_eq_some_iff.1 (h.at_ D hD)).1
theorem DS.add (h : DS w ds W) {D : Nat} (hW : W'.heap[D]? = some (.deferred (some []))) (hw : w.heap.size ≤ D) (hn : ({ target := .collected D, args := #[] } : Deferred) ∉ ds) (hk : ∀ E, ({ target := .collected E, args := #[] } : Deferred) ∈ ds → W'.heap[E]? = W.heap[E]?) : DS w (({ target := .collected D, args := #[] } : Deferred) :: ds) W' := by
  refine ⟨fun d hd => ?_, List.nodup_cons.2 ⟨hn, h.nd⟩, fun E hE => ?_⟩
  · rcases List.mem_cons.1 hd with rfl | hd
    · exact ⟨D, rfl, hw⟩
    · exact h.mks d hd
  · rcases List.mem_cons.1 hE with e | hE
    · cases e; exact hW
    · exact (hk E hE).trans (h.at_ E hE)
end
/-- Within one going through what is new. -/
structure NI (w : World) (L : List Tm) (Bs sb hb tb rb : Nat) (K : Nat → Tag) (PS : List Plc) (RJ : Nat → List Nat) (h0 hd : List Bool) (ds : List Deferred) (W0 : World) (Bv : Nat) (k : Nat) (td : List Bool) (W : World) : Prop where
  ci : CI w L Bs sb hb tb rb K PS RJ h0 hd td W
  told : ∀ j, j < k → SB hd j → SB td j
  hv : W.heap[Bv]? = some (.cells #[.pointer (some ⟨sb, 0, none⟩)] 62)
  dsm : DS w ds W
  lod : W0.heap.size ≤ W.heap.size
  dlo : ∀ D, ({ target := .collected D, args := #[] } : Deferred) ∈ ds → D < W0.heap.size
  kv : K Bv = .other
section
variable {w : World} {L : List Tm} {Bs sb hb tb rb : Nat} {K : Nat → Tag} {PS : List Plc} {RJ : Nat → List Nat} {h0 hd td : List Bool} {W W' W0 : World} {ds : List Deferred} {Bv k : Nat}
theorem NI.grown (h : NI w L Bs sb hb tb rb K PS RJ h0 hd ds W0 Bv k td W) (hw0 : w.heap.size ≤ W0.heap.size) {row : Option Nat} (hg : W.grownBy W' row) (hr : ∀ r, row = some r → W0.heap.size ≤ r ∧ ∃ o : Obj, W.heap[r]? = some o ∧ o.isCells = false) : NI w L Bs sb hb tb rb K PS RJ h0 hd ds W0 Bv k td W' :=
  ⟨h.ci.grown hg fun r e => ⟨Nat.le_trans hw0 (hr r e).1, (hr r e).2⟩, h.told, (hg.block Bv (Array.getElem?_eq_some_iff.1 h.hv).1 (fun e => by obtain ⟨_, o, ho, hoc⟩ := hr Bv e.symm; rw [h.hv] at ho; cases ho; cases hoc)).trans h.hv, h.dsm.keep fun D hD => hg.block D (h.dsm.lt hD) (fun e => by have := (hr D e.symm).1; have := h.dlo D hD; omega), Nat.le_trans h.lod hg.size, h.dlo, h.kv⟩
/-- A way out, with something new. -/
def NX (w : World) (L : List Tm) (Bs sb hb tb rb : Nat) (K : Nat → Tag) (PS : List Plc) (RJ : Nat → List Nat) (h0 hd : List Bool) (ds : List Deferred) (W0 : World) (c : Code) (W : World) : Prop := c = .exit 1 ∧ W0.heap.size ≤ W.heap.size ∧ (∀ D, ({ target := .collected D, args := #[] } : Deferred) ∈ ds → D < W0.heap.size) ∧ DS w ds W ∧ ∃ hd' td', lackB hd' < lackB hd ∧ CI w L Bs sb hb tb rb K PS RJ h0 hd' td' W
theorem NX.own (hw0 : w.heap.size ≤ W0.heap.size) : OwnFrom W0.heap.size (NX w L Bs sb hb tb rb K PS RJ h0 hd ds W0) := by
  rintro c A A' row ⟨e1, e2, e3, e4, hd', td', e5, e6⟩ hg hr
  exact ⟨e1, Nat.le_trans e2 hg.size, e3, e4.keep fun D hD => hg.block D (e4.lt hD) (fun e => by have := (hr D e.symm).1; have := e3 D hD; omega), hd', td', e5, e6.grown hg fun r e => ⟨Nat.le_trans hw0 (hr r e).1, (hr r e).2⟩⟩
end
/-- What has been collected. -/
structure ClEnd (w : World) (zs : List Int) (v : Value) (W : World) : Prop where
  own : W.ownsRow w.heap.size 3 1 v zs.length (ivals zs)
  bel : Below w.heap.size w W
theorem ClEnd.from (w : World) (zs : List Int) (v : Value) : OwnFrom w.heap.size (fun (_ : Unit) => ClEnd w zs v) := by
  intro γ A A' row h hg hr
  refine ⟨own_same h.own fun g hv => ?_, h.bel.grown hg h.bel.size (fun r e => (hr r e).1)⟩
  refine hg.block g (h.own.lt g hv).2 fun e => ?_
  obtain ⟨_, o, ho, hoc⟩ := hr g e.symm
  rcases h.own.2 with ⟨e1, _⟩ | ⟨g', cap, cur, e1, _, e3, _⟩
  · rw [e1] at hv; cases hv
  · rw [e1] at hv; cases hv; rw [e3] at ho; cases ho; cases hoc
theorem cells_at {w : World} {g i : Nat} {v : Value} (h : w.cell? ⟨g, i, none⟩ = some v) : ∃ o : Obj, w.heap[g]? = some o ∧ o.isCells = true := cells_of_cell h
/-- The numbers below i that are told. -/
def tkB (hd : List Bool) (i : Nat) : List Int := ((List.range i).filter fun n => hd.getD n false).map Int.ofNat
theorem tkB_step (hd : List Bool) (i : Nat) (hi : i < hd.length) : tkB hd (i + 1) = tkB hd i ++ (if hd.getD i false = true then [(i : Int)] else []) := told_take hd i hi
theorem tkB_len (hd : List Bool) (i : Nat) : (tkB hd i).length ≤ i := by
  unfold tkB
  rw [List.length_map]
  exact Nat.le_trans (List.length_filter_le _ _) (by simp)
theorem own_base {w : World} {b b' : Nat} {e : TypeId} {size : Nat} {v : Value} {n : Nat} {xs : List Value} (h : w.ownsRow b e size v n xs) (hb : b' ≤ b) : w.ownsRow b' e size v n xs :=
  ⟨h.1, h.2.imp id fun ⟨g, cap, cur, h1, h2, h3⟩ => ⟨g, cap, cur, h1, Nat.le_trans hb h2, h3⟩⟩
theorem ivals_app (a b : List Int) : ivals (a ++ b) = ivals a ++ ivals b := by unfold ivals; rw [List.map_append]
set_option maxRecDepth 100000 in
set_option maxHeartbeats 16000000 in
theorem closure_any {S : Nat → Prop} {vb mb0 : Nat} {ob : Option Nat} {L : List Tm} (w : World) (hV : Vlt S w vb mb0 ob L) (ht : txc.Tab w.heap.size w) (hsz : ∀ t ∈ L, szT t ≤ 10000) (T : Tbl L) (A : Option Addr) (n c : Nat) (xs : List Int) (hx : Ins w A n xs) (hnc : n ≤ c) (hcm : c ≤ maxLen) :
    Calls Tryz.prog 11 #[.pointer (some ⟨vb, 0, none⟩), .slice A n c] w (InsPostF w (clF L xs)) := by
  have HREAD := Lib.hid (read_any w hV ht hsz T)
  have h9 : c ≤ 9223372036854775807 := by unfold maxLen at hcm; omega
  have HXX := Lib.hid (And.intro hx (And.intro hnc hcm))
  have HT := Lib.hid T
  clear hV ht hsz T hx hcm
  refine (callsIn_wide (n := 9)).1 (callsIn_of_wp_marks Tryz.func11 rfl trivial (wpIn_wide.2 ?_))
  simp only [Tryz.ntmps11, List.size_toArray, List.length_cons, List.length_nil, Nat.reduceAdd, Nat.reduceSub, Array.replicate_succ, Array.replicate_zero, List.push_toArray, List.append_toArray, List.nil_append, List.cons_append]
  go_wp2_with fail
  refine wp_scope_straight ?_
  go_wp2_with fail
  refine HREAD.out.mono ?_
  rintro e w1 ⟨sb, hb, tb, rb, K, PS, RJ, hd0, rfl, h1, h2, h3, h4, h5, h6⟩
  have HR0 := Lib.hid (And.intro h1 (And.intro h2 (And.intro h3 (And.intro h4 (And.intro h5 h6)))))
  clear h1 h2 h3 h4 h5 h6
  go_wp2_with fail
  have hnew := below_new w1 (.cells #[.pointer (some ⟨sb, 0, none⟩)] 62)
  have hq := heap_new_ w1 (.cells #[.pointer (some ⟨sb, 0, none⟩)] 62)
  obtain ⟨W2, hW2⟩ : ∃ x, w1.alloc (.cells #[.pointer (some ⟨sb, 0, none⟩)] 62) = x := ⟨_, rfl⟩
  rw [hW2] at hnew hq ⊢
  obtain ⟨Bs, hBs⟩ : ∃ x, w1.heap.size = x := ⟨_, rfl⟩
  rw [hBs] at hq ⊢
  have hKB : K Bs = .other := HR0.out.1.far Bs (by omega)
  have hx2 : Ins W2 A n xs := (HXX.out.1.below HR0.out.2.2.2.2.2).below hnew
  have hAo : 0 < n → ∀ g off, A = some ⟨g, off, none⟩ → K g = .other := fun hn g off e => Classical.byContradiction fun hne => by
    obtain ⟨o, ho, _⟩ := ins_cells HXX.out.1 hn e
    have h1 := (Array.getElem?_eq_some_iff.1 ho).1
    have h2 := HR0.out.1.near g hne
    omega
  have hbW2 := HR0.out.2.2.2.2.2.trans (hnew.mono HR0.out.2.2.2.2.2.size)
  have HH := Lib.hid (have_any (HR0.out.1.below hnew) A n c xs hx2 hnc HXX.out.2.2 hAo)
  have HB := Lib.hid (And.intro hq (And.intro hKB hbW2))
  clear hnew hq hW2 hBs hKB hx2 hAo hbW2
  refine HH.out.mono ?_
  rintro e W3 ⟨rfl, hS3, hO3⟩
  obtain ⟨h1, hh1⟩ : ∃ x, haveF hd0 xs = x := ⟨_, rfl⟩
  rw [hh1] at hS3
  dsimp only
  obtain ⟨bq, hbq⟩ : ∃ x, foundB hd0 (haveF hd0 xs) = x := ⟨_, rfl⟩
  rw [hbq]
  have hl1 : h1.length = L.length := by rw [← hh1, have_len]; exact HR0.out.2.2.1
  have hci : CI w L Bs sb hb tb rb K PS RJ h1 h1 (List.replicate L.length false) W3 := by
    refine ⟨hS3, SI.begin hl1 rfl HR0.out.2.1.full, ?_, HB.out.2.2.trans (hO3.below (fun g hg => HR0.out.1.near g (by rw [hg]; simp)) HB.out.2.2.size)⟩
    exact (hO3.block Bs (Array.getElem?_eq_some_iff.1 HB.out.1).1 (fun e => by rw [HB.out.2.1] at e; cases e)).trans HB.out.1
  have hlk := lack_le h1
  have HC0 := Lib.hid hci
  have HK1 := Lib.hid (And.intro hh1 (And.intro hl1 HB.out.2.1))
  clear hS3 hO3 hbq hci hh1 hl1 HH HB
  go_wp2_with fail
  refine wp_label ?_
  go_wp2_with fail
  refine wp_loop_ghost (fun g a W => ∃ (hd td : List Bool) (ds : List Deferred) (u17 u18 : Value), a = { tmps := #[.pointer (some ⟨vb, 0, none⟩), .slice A n c, undef, undef, .slice none 0 0, .pointer (some ⟨Bs, 0, none⟩), undef, undef, undef, undef, .pointer (some ⟨vb, 0, none⟩), .bool false, .pointer (some ⟨vb, 0, none⟩), .pointer (some ⟨sb, 0, none⟩), .pointer (some ⟨sb, 0, none⟩), .slice A n c, .bool bq, u17, u18, undef, undef, undef, undef, undef, undef, undef, undef, undef, undef, undef, undef, undef, undef, undef, undef, undef, undef, undef, undef, undef], defers := ds } ∧ lackB hd < g ∧ Hid (CI w L Bs sb hb tb rb K PS RJ h1 hd td W ∧ DS w ds W)) (h1.length + 1) ⟨h1, List.replicate L.length false, [], undef, undef, rfl, by omega, Lib.hid ⟨HC0.out, (fun d h => by cases h), List.nodup_nil, (fun D h => by cases h)⟩⟩ ?_
  rintro g a W ⟨hd, td, ds, u17, u18, rfl, hlg, HI⟩
  clear hlk HC0
  have HLG := Lib.hid hlg
  clear hlg
  have xs0 : W.cell? ⟨Bs, 0, none⟩ = some (.pointer (some ⟨sb, 0, none⟩)) := (Lib.cell_of_heap HI.out.1.hs _).trans rfl
  go_wp2_with fail
  refine (news_call sb W).mono ?_
  rintro e W0 ⟨rfl, hW0⟩
  have hnb := below_new W (.cells #[.pointer (some ⟨sb, 0, none⟩)] 62)
  have hnq := heap_new_ W (.cells #[.pointer (some ⟨sb, 0, none⟩)] 62)
  rw [← hW0] at hnb hnq
  obtain ⟨Bv, hBv⟩ : ∃ x, W.heap.size = x := ⟨_, rfl⟩
  rw [hBv] at hnq ⊢
  have hni : NI w L Bs sb hb tb rb K PS RJ h1 hd ds W0 Bv 0 td W0 := ⟨HI.out.1.below hnb, fun j hj => absurd hj (Nat.not_lt_zero _), hnq, HI.out.2.keep fun D hD => hnb.block D (HI.out.2.lt hD), Nat.le_refl _, fun D hD => Nat.lt_of_lt_of_le (HI.out.2.lt hD) hnb.size, HI.out.1.sch.far Bv (by omega)⟩
  have hw0 : w.heap.size ≤ W0.heap.size := hni.ci.bel.size
  have HN := Lib.hid (And.intro hni hw0)
  clear hnb hnq hBv hni hw0 hW0 xs0
  go_wp2_with fail
  refine (wpIn_wide (n := 9)).1 ?_
  refine wpIn_rangeFunc_J (F := Fence.wide) (n := 9) (G := List Bool) (α := Nat) rfl (by omega) (gf := 57) (lb := #[.pointer (some ⟨Bv, 0, none⟩)]) rfl trivial (enters_of Tryz.func57 (by kernel_rfl) rfl) (encs := fun x : Nat => #[.int .i64 (x : Nat)]) (fun x => rfl)
    (fun k td W => NI w L Bs sb hb tb rb K PS RJ h1 hd ds W0 Bv k td W) (NX w L Bs sb hb tb rb K PS RJ h1 hd ds W0) (fun k _ x W => x = k ∧ Fresh hb tb k W) (fun k W => ¬ Fresh hb tb k W) L.length
    (news_seq (G := List Bool) 8 Bv sb hb tb L.length _ HT.out.len ?hI)
    ?own (NX.own HN.out.2) ?skip ⟨td, HN.out.1⟩
    (fun k x a' W => ∃ td, NI w L Bs sb hb tb rb K PS RJ h1 hd ds W0 Bv k td W ∧ x = k ∧ Fresh hb tb k W ∧ a' = { tmps := #[.pointer (some ⟨vb, 0, none⟩), .slice A n c, undef, undef, .slice none 0 0, .pointer (some ⟨Bs, 0, none⟩), .int .i64 (k : Nat), undef, undef, undef, .pointer (some ⟨vb, 0, none⟩), .bool false, .pointer (some ⟨vb, 0, none⟩), .pointer (some ⟨sb, 0, none⟩), .pointer (some ⟨sb, 0, none⟩), .slice A n c, .bool bq, .pointer (some ⟨sb, 0, none⟩), .func (.func 57) #[] #[.pointer (some ⟨Bv, 0, none⟩)], .int .i64 (k : Nat), undef, undef, undef, undef, undef, undef, undef, undef, undef, undef, undef, undef, undef, undef, undef, undef, undef, undef, undef, undef], defers := [] })
    ?hAx ?assign ?body ?done ?stop
  case hI =>
    intro k td A hA
    obtain ⟨c0, c1, _⟩ := hA.ci.sch.cells3
    rw [hA.ci.si.lh] at c0 c1
    refine ⟨(Lib.cell_of_heap hA.hv _).trans rfl, c0, c1, fun i hi => ⟨_, _, hA.ci.sch.had.at (by rw [hA.ci.si.lh]; exact hi), hA.ci.sch.told.at (by rw [hA.ci.si.lt]; exact hi)⟩⟩
  case own => exact fun k td A A' row hs hg hr => hs.grown HN.out.2 hg hr
  case skip =>
    intro k td A hk hA hS
    refine ⟨hA.ci, fun j hj hs => ?_, hA.hv, hA.dsm, hA.lod, hA.dlo, hA.kv⟩
    by_cases e : j = k
    · subst e
      refine Classical.byContradiction fun hne => hS ⟨?_, ?_⟩
      · rw [hA.ci.sch.had.at (by rw [hA.ci.si.lh]; exact hk)]
        exact congrArg (fun b => some (Value.bool b)) hs
      · rw [hA.ci.sch.told.at (by rw [hA.ci.si.lt]; exact hk)]
        exact congrArg (fun b => some (Value.bool b)) (Bool.eq_false_iff.2 hne)
    · exact hA.told j (by omega) hs
  case hAx =>
    rintro k x a' _ A A' row ⟨td, h1, h2, h3, h4⟩ hg hr
    have hk : ∀ g, (∃ o : Obj, A.heap[g]? = some o ∧ o.isCells = true) → A'.heap[g]? = A.heap[g]? := fun g ⟨o, hc, hoc⟩ => hg.block g (Array.getElem?_eq_some_iff.1 hc).1 fun e => by
      obtain ⟨_, o', ho, hoc'⟩ := hr g e.symm
      rw [hc] at ho; cases ho; rw [hoc] at hoc'; cases hoc'
    refine ⟨td, h1.grown HN.out.2 hg hr, h2, ⟨?_, ?_⟩, h4⟩
    · have e := hk hb (cells_at h3.1)
      exact (cell_same (p := ⟨hb, k, none⟩) e).trans h3.1
    · have e := hk tb (cells_at h3.2)
      exact (cell_same (p := ⟨tb, k, none⟩) e).trans h3.2
  case assign =>
    rintro l k td x W Kk hkN hI ⟨rfl, hf⟩ hK
    have HA := Lib.hid (hK { tmps := #[.pointer (some ⟨vb, 0, none⟩), .slice A n c, undef, undef, .slice none 0 0, .pointer (some ⟨Bs, 0, none⟩), .int .i64 (x : Nat), undef, undef, undef, .pointer (some ⟨vb, 0, none⟩), .bool false, .pointer (some ⟨vb, 0, none⟩), .pointer (some ⟨sb, 0, none⟩), .pointer (some ⟨sb, 0, none⟩), .slice A n c, .bool bq, .pointer (some ⟨sb, 0, none⟩), .func (.func 57) #[] #[.pointer (some ⟨Bv, 0, none⟩)], .int .i64 (x : Nat), undef, undef, undef, undef, undef, undef, undef, undef, undef, undef, undef, undef, undef, undef, undef, undef, undef, undef, undef, undef], defers := [] } W (KeepsFrom.of_grownBy (grown_of_below (Below.refl _ _) none) (fun j e => by cases e)) ⟨td, hI, rfl, hf, rfl⟩)
    clear hK hI hf
    dsimp only
    gi_wp2
    exact HA.out
  case body =>
    rintro l k x a' W hkN hl ⟨td, hA, rfl, hf, rfl⟩
    have hxs : x < hd.length := by rw [hA.ci.si.lh]; exact hkN
    have hn : SB hd x := by
      have h := hf.1
      rw [hA.ci.sch.had.at hxs] at h
      injection h with h
      injection h with h
    have htx : td.getD x false = false := by
      have h := hf.2
      rw [hA.ci.sch.told.at (by rw [hA.ci.si.lt]; exact hkN)] at h
      injection h with h
      injection h with h
    have htell := tell_any hA.ci.sch (by rw [hA.ci.si.lh]; exact HR0.out.2.1) (by have := HR0.out.2.2.2.1; omega) (by rw [hA.ci.si.lh]; exact hA.ci.si.rebase) x hn htx
    have x5 : W.cell? ⟨Bs, 0, none⟩ = some (.pointer (some ⟨sb, 0, none⟩)) := (Lib.cell_of_heap hA.ci.hs _).trans rfl
    have HTL := Lib.hid htell
    have HA := Lib.hid hA
    have HXN := Lib.hid (And.intro hkN hxs)
    clear htell hA hf hxs hn htx hkN
    try dsimp only
    gi_wp2_with fail
    (first | refine ⟨trivial, (fun h => by cases h), ?_⟩ | refine ⟨trivial, ?_⟩ | skip)
    refine (CallsIn.inRound l (callsIn_wide.2 HTL.out)).mono ?_
    rintro e W2 ⟨hd2, rfl, s1, s2, s3⟩
    have hci2 : CI w L Bs sb hb tb rb K PS RJ h1 hd2 (td.set x true) W2 := ⟨s1, HA.out.ci.si.join (HA.out.ci.si.lh ▸ s2), (s3.block Bs (Array.getElem?_eq_some_iff.1 HA.out.ci.hs).1 (fun e => e HK1.out.2.2)).trans HA.out.ci.hs, HA.out.ci.bel.trans (s3.below (fun g hg => HA.out.ci.sch.near g hg) HA.out.ci.bel.size)⟩
    have hkd : ∀ D, ({ target := .collected D, args := #[] } : Deferred) ∈ ds → W2.heap[D]? = W.heap[D]? := fun D hD => s3.block D (HA.out.dsm.lt hD) (fun e => e (HA.out.ci.free (HA.out.dsm.at_ D hD) rfl))
    have hkeep : KeepsFrom W0.heap.size W W2 := ⟨s3.size, fun g o _ hg ho => (s3.block g (Array.getElem?_eq_some_iff.1 hg).1 (fun e => e (HA.out.ci.free hg ho))).trans hg⟩
    have hvv := (s3.block Bv (Array.getElem?_eq_some_iff.1 HA.out.hv).1 (fun e => e HA.out.kv)).trans HA.out.hv
    have H2 := Lib.hid (And.intro hci2 (And.intro (HA.out.dsm.keep hkd) (And.intro hkeep (And.intro s2.sub (And.intro hvv s3.size)))))
    obtain ⟨fb, hfb⟩ : ∃ y, foundB hd hd2 = y := ⟨_, rfl⟩
    dsimp only
    rw [hfb]
    have HFB := Lib.hid hfb
    clear hci2 hkd hkeep hvv s1 s2 s3 hfb x5 HTL
    cases fb
    · have he : hd2 = hd := Classical.byContradiction fun hne => by
        have := HFB.out
        rw [found_yes hne] at this
        cases this
      subst he
      have hni : NI w L Bs sb hb tb rb K PS RJ h1 hd2 ds W0 Bv (x + 1) (td.set x true) W2 := ⟨H2.out.1, fun j hj hs => (SB.set (by rw [HA.out.ci.si.lt]; exact HXN.out.1)).2 (by
        by_cases e : j = x
        · exact .inl e
        · exact .inr (HA.out.told j (by omega) hs)), H2.out.2.2.2.2.1, H2.out.2.1, Nat.le_trans HA.out.lod H2.out.2.2.2.2.2, HA.out.dlo, HA.out.kv⟩
      have HNI := Lib.hid hni
      clear hni
      gi_wp2_with fail
      exact ⟨H2.out.2.2.1, _, HNI.out⟩
    · have hlk : lackB hd2 < lackB hd := (lack_lt H2.out.2.2.2.1).1 (fun e => by
        have := HFB.out
        rw [e, found_no] at this
        cases this)
      have HLK := Lib.hid hlk
      clear hlk
      gi_wp2_with fail
      exact ⟨H2.out.2.2.1, rfl, Nat.le_trans HA.out.lod H2.out.2.2.2.2.2, HA.out.dlo, H2.out.2.1, _, _, HLK.out, H2.out.1⟩
  case stop =>
    intro D cc W hD hX hdf
    obtain ⟨rfl, e2, e3, e4, hd2, td2, e5, e6⟩ := hX
    have hds := e4.add (D := D) hdf (Nat.le_trans HN.out.2 hD) (fun hm => by have := e3 D hm; omega) (fun _ _ => rfl)
    have HF := Lib.hid (And.intro e5 (And.intro e6 hds))
    clear e2 e3 e4 e5 e6 hds hdf hD
    refine wpIn_wide.2 ?_
    go_wp2_with fail
    exact ⟨lackB hd2 + 1, by have := HF.out.1; have := HLG.out; omega, hd2, td2, _, _, _, rfl, Nat.lt_succ_self _, Lib.hid ⟨HF.out.2.1, HF.out.2.2⟩⟩
  case done =>
    intro D td2 W hD hI hdf
    have hds := hI.dsm.add (D := D) hdf (Nat.le_trans HN.out.2 hD) (fun hm => by have := hI.dlo D hm; omega) (fun _ _ => rfl)
    have hend : ∀ n, SB hd n → SB td2 n := fun n hn => hI.told n (by rw [← hI.ci.si.lh]; exact hn.lt) hn
    have hcl : toldB hd = clF L xs := told_cl hI.ci.si.lh fun n => had_cl HT.out HR0.out.2.2.2.2.1 (K := KofF xs) (hs := ⟨by rw [← HK1.out.1, have_len], fun n hn => by rw [← HK1.out.1]; exact have_sb.2 (.inl hn)⟩) (fun n => by
      rw [← HK1.out.1, have_sb, HR0.out.2.2.1]
      exact ⟨fun h => h.imp id fun h => ⟨h.2, h.1⟩, fun h => h.imp id fun h => ⟨h.2, h.1⟩⟩) hI.ci.si hend n
    have x5 : W.cell? ⟨Bs, 0, none⟩ = some (.pointer (some ⟨sb, 0, none⟩)) := (Lib.cell_of_heap hI.ci.hs _).trans rfl
    obtain ⟨c0, _, _⟩ := hI.ci.sch.cells3
    have hN := hI.ci.si.lh
    have hN96 := HT.out.len
    obtain ⟨N, hNN⟩ : ∃ N, hd.length = N := ⟨_, rfl⟩
    rw [hNN] at c0 hN
    have HE := Lib.hid (And.intro hds (And.intro hcl (And.intro hI.ci (And.intro hNN hN))))
    clear hds hend hcl hI hdf hD hN hN96 hNN
    go_wp2_with fail
    have hrow0 : Hid (W.ownsRow W.heap.size 3 1 (.slice none 0 0) (tkB hd 0).length (ivals (tkB hd 0)) ∧ Below W.heap.size W W) := Lib.hid ⟨World.ownsRow_nil _ _ _ _, Below.refl _ _⟩
    go_loopg [7, 28] (N + 1) (fun gk s7 s28 wx => ∃ (i : Nat) (v : Value), s7 = v ∧ s28 = .int .i64 (i : Nat) ∧ i ≤ N ∧ N - i < gk ∧ Hid (wx.ownsRow W.heap.size 3 1 v (tkB hd i).length (ivals (tkB hd i)) ∧ Below W.heap.size W wx))
    case atStart => exact ⟨0, _, rfl, rfl, by omega, by omega, hrow0⟩
    case round =>
      obtain ⟨i, v, hv0, rfl, hi, hgk, HR⟩ := hrel
      obtain rfl := hv0.symm
      clear hrow0
      by_cases hlt : i < N
      · have hltz : (i : Int) < (N : Int) := by omega
        obtain ⟨gk', rfl⟩ : ∃ g', gk = g' + 1 := ⟨gk - 1, by omega⟩
        have HN2 := Lib.hid (And.intro (show i + 1 ≤ N from hlt) (show N - (i + 1) < gk' by omega))
        have hih : i < hd.length := by rw [HE.out.2.2.2.1]; exact hlt
        have hst := tkB_step hd i hih
        have x0 := cell_on HR.out.2 (HE.out.2.2.1.sch.had.at hih)
        have hiz : (0 : Int) ≤ (i : Int) := by omega
        have hi9 : (i : Int) ≤ 4096 := by have := HT.out.len; have := HE.out.2.2.2.2; omega
        obtain ⟨bi, hbi⟩ : ∃ x, hd.getD i false = x := ⟨_, rfl⟩
        rw [hbi] at hst x0
        cases bi
        · have hst2 : tkB hd (i + 1) = tkB hd i := by rw [hst]; simp
          have HS := Lib.hid hst2
          clear hst hst2 hgk hih hbi hi
          go_wp2_with fail
          go_roundg gk'
          case measure => omega
          case rel => exact ⟨i + 1, _, rfl, by go_num, HN2.out.1, HN2.out.2, Lib.hid ⟨by rw [HS.out]; exact HR.out.1, HR.out.2⟩⟩
        · have hst2 : tkB hd (i + 1) = tkB hd i ++ [(i : Int)] := by rw [hst]; simp
          have hle := tkB_len hd i
          obtain ⟨v', w', hrun, hown2, hgr, hob⟩ := app_int wr W.heap.size v _ _ HR.out.1 (i : Int) ⟨by omega, by omega⟩ (by have := HT.out.len; have := HE.out.2.2.2.2; omega) HR.out.2.size
          have hbel := app_int_below HR.out.1 HR.out.2.size hgr
          have hown3 : w'.ownsRow W.heap.size 3 1 v' (tkB hd (i + 1)).length (ivals (tkB hd (i + 1))) := by
            rw [hst2, List.length_append, ivals_app]
            exact hown2
          have HS := Lib.hid (And.intro hown3 (HR.out.2.trans hbel))
          clear hst hst2 hgk hih hbi hi hle hown2 hown3 hgr hob hbel
          go_wp2_with (at_builtin; refine wpl_append rfl (.tmp 34) (.tmp 36) 23 rfl _ _ _ rfl rfl hrun ?_)
          clear hrun x0
          go_wp2
          go_roundg gk'
          case measure => omega
          case rel => exact ⟨i + 1, v', rfl, by go_num, HN2.out.1, HN2.out.2, HS⟩
      · obtain rfl : N = i := by omega
        have hltz : ¬ (N : Int) < (N : Int) := by omega
        have hz : tkB hd N = clF L xs := by rw [← HE.out.2.2.2.1]; exact HE.out.2.1
        have hown := HR.out.1
        rw [hz] at hown
        have hcl : ClEnd w (clF L xs) v wr := ⟨own_base hown HE.out.2.2.1.bel.size, HE.out.2.2.1.bel.trans (HR.out.2.mono HE.out.2.2.1.bel.size)⟩
        have hds := HE.out.1.keep (W' := wr) fun E hE => HR.out.2.block E (HE.out.1.lt hE)
        have HF := Lib.hid (And.intro hcl hds)
        clear hz hown hcl hds hgk hi
        go_wp2_with fail
        refine leaves_marks (fun W' => ClEnd w (clF L xs) v W') w.heap.size (ClEnd.from w (clF L xs) v) _ _ HF.out.1 HF.out.2.mks HF.out.2.nd HF.out.2.at_ (fun w' hw' => ?_)
        unfold LeavesIn
        refine ⟨_, results_tmp rfl _ _ _, ?_⟩
        exact ins_post hw'.own (fun x hx => by have := clF_bd hx; have := HT.out.len; omega) hw'.bel
end Go.Proofs.YtlhogjigdmpokaaGreatDoor.vtc
