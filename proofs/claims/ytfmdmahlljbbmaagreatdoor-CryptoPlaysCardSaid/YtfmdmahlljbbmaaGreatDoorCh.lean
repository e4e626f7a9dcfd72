/- What is done with keys: the document's calls that make a term. -/
import Derived.Test.YtfmdmahlljbbmaaGreatDoorVtb
import Derived.Test.YtfmdmahlljbbmaaGreatDoorCf
import Derived.Test.YtfmdmahlljbbmaaGreatDoorCp
import Derived.Deep.RegionLaw
namespace Go.Proofs.YtfmdmahlljbbmaaGreatDoor.vtc
open Go.RowKit Go.Proofs.YtfmdmahlljbbmaaGreatDoor.tlvc Go.Proofs.YtfmdmahlljbbmaaGreatDoor.tmc
set_option linter.unusedVariables false
/-- The document's vault in use. -/
structure Rok (Q : Nat → Prop) (rb : Nat) (od : Option Nat) (L : List Tm) (w : World) : Prop where
  rvl : RVl Q w rb od L
  qb : ∀ g, Q g → g < w.heap.size
  sz : ∀ x ∈ L, szT x ≤ 4096
theorem Rok.below {Q : Nat → Prop} {rb : Nat} {od : Option Nat} {L : List Tm} {w W : World} (h : Rok Q rb od L w) (hb : Below w.heap.size w W) : Rok Q rb od L W := ⟨h.rvl.below hb, fun g hg => Nat.lt_of_lt_of_le (h.qb g hg) hb.size, h.sz⟩
theorem rterm_hand {Q : Nat → Prop} {rb : Nat} {od : Option Nat} {L : List Tm} {w : World} (h : Rok Q rb od L w) (n : Int) :
    Calls Tryz.prog 37 #[.pointer (some ⟨rb, 0, none⟩), .int .i64 n] w (RTermPost Q w ((hand L n).getD (.mk 0 0 [] [])) (hand L n).isSome) := by
  cases hh : hand L n with
  | none => exact rterm_no Q rb od L n w h.rvl (hand_none hh)
  | some t =>
    obtain ⟨i, rfl, hi⟩ := hand_some hh
    exact rterm_yes Q rb od L i t w h.rvl h.qb hi
theorem rinternq_same {Q : Nat → Prop} {rb : Nat} {od : Option Nat} {L : List Tm} {w w' : World} (h : Rok Q rb od L w) (hb : Below w.heap.size w w') (n e : Int) : RInternQ Q rb od w (n, e, L) (.returned (.tuple #[.int .i64 n, .int .i64 e])) w' :=
  ⟨od, Q, rfl, h.rvl.below hb, fun g hg => ⟨.inl hg, Nat.lt_of_lt_of_le (h.qb g hg) hb.size⟩, fun g hg => hg, .inl rfl, Off.of_below hb⟩
theorem RInternQ.from {Q : Nat → Prop} {rb : Nat} {od : Option Nat} {w W w' : World} {r : Int × Int × List Tm} {e : Ending} (hb : Below w.heap.size w W) (h : RInternQ Q rb od W r e w') : RInternQ Q rb od w r e w' := by
  obtain ⟨od', Q', he, h1, h2, h3, h4, h5⟩ := h
  have hs := hb.size
  exact ⟨od', Q', he, h1, fun g hg => ⟨(h2 g hg).1.imp id fun e => by omega, (h2 g hg).2⟩, h3, h4.imp id fun ⟨g, e, hg⟩ => ⟨g, e, by omega⟩, (Off.of_below (S := MutR rb od) hb).trans h5 (fun _ _ e => e) (fun _ _ e => e)⟩
/-- Bytes behind an empty list of the call's own. -/
theorem of_ready (W5 : World) (A : Option Addr) (la ca : Nat) (d : List Int) (hd : Bys W5 A la d) (hla : la ≤ 140737488351232) (W : World) (hb : Below W5.heap.size W5 W) (b : Nat) (hown : W.ownsRow W5.heap.size 5 1 (.slice (some ⟨b, 0, none⟩) 0 0) 0 []) :
    ∃ A6 c6 w6, (Builtin.append_ #[29, 29] 29 #[.slice (some ⟨b, 0, none⟩) 0 0, .slice A la ca]).run Tryz.prog W = .ok (.slice A6 la c6) w6 ∧ (∀ g, g < W.heap.size → g ≠ b → w6.heap[g]? = W.heap[g]?) ∧ Below W5.heap.size W5 w6 ∧ W.heap.size ≤ w6.heap.size ∧ Bys w6 A6 la d ∧ la ≤ c6 ∧ c6 ≤ maxLen ∧ (∀ g off sp, A6 = some ⟨g, off, sp⟩ → W5.heap.size ≤ g) := by
  obtain ⟨v3, w1, hrun, hown3, hg3, hob3⟩ := app_long W W5.heap.size (.slice (some ⟨b, 0, none⟩) 0 0) 0 [] hown A la ca d (hd.below hb) (by omega) hb.size
  rw [Nat.zero_add, List.nil_append] at hown3
  obtain ⟨Ao, co, hv3, hlo, hco, hAo⟩ := own_shape hown3
  subst hv3
  exact ⟨Ao, co, w1, hrun, fun g hg hne => hg3.block g hg (fun e => hne (Option.some.inj e)), hb.grown hg3 hb.size fun j hj => (hown.lt j hj).1, hg3.size, Bys.own hown3 hd.2.1, hlo, hco, fun g off sp e => (hown3.lt g (by rw [e]; rfl)).1⟩
theorem one_tms {B : Nat → Prop} {W : World} {gk : Nat} {t : Tm} {c0 c1 c2 c3 : Value} {T : TypeId} (hq : W.heap[gk]? = some (.cells #[c0, c1, c2, c3] T)) (hB : B gk) (ht : TmC B W t c0 c1 c2 c3) : TmsZ B W (some ⟨gk, 0, none⟩) [t] := fun _ => by
  refine ⟨gk, rfl, (Array.getElem?_eq_some_iff.1 hq).1, hB, ?_⟩
  unfold KidsC
  exact ⟨⟨_, _, _, _, (Lib.cell_of_heap hq _).trans rfl, (Lib.cell_of_heap hq _).trans rfl, (Lib.cell_of_heap hq _).trans rfl, (Lib.cell_of_heap hq _).trans rfl, ht⟩, by unfold KidsC; trivial⟩
theorem lit_own (W : World) : (W.alloc (.cells #[] 5)).ownsRow W.heap.size 5 1 (.slice (some ⟨W.heap.size, 0, none⟩) 0 0) 0 [] := World.ownsRow_lit W #[] 0 (Nat.le_refl _) (Nat.zero_le _) rfl
set_option maxRecDepth 100000 in
set_option maxHeartbeats 16000000 in
theorem rof_any {Q : Nat → Prop} {rb : Nat} {od : Option Nat} {L : List Tm} {w : World} (h : Rok Q rb od L w) (op : Int) (ho : I64 op) (key : Int) (D : Option Addr) (la ca : Nat) (d : List Int) (hd : Bys w D la d) (hla : la ≤ 140737488351232) :
    Calls Tryz.prog 34 #[.pointer (some ⟨rb, 0, none⟩), .int .i64 op, .int .i64 key, .slice D la ca] w (RInternQ Q rb od w (ofF L op key d)) := by
  have hT := rterm_hand h key
  have HH := Lib.hid h
  cases hh : hand L key with
  | none =>
    rw [of_none hh]
    rw [hh] at hT
    have HT : Hid (Calls Tryz.prog 37 #[.pointer (some ⟨rb, 0, none⟩), .int .i64 key] w (RTermPost Q w (.mk 0 0 [] []) false)) := Lib.hid hT
    clear hT hh h hd
    go_enter Tryz.func34, Tryz.ntmps34
    go_wp2_with (go_at_call 37; refine HT.out.mono ?_; rintro e w1 ⟨v, rfl, ⟨y0, y1, y2, y3, rfl, hy⟩, hb1⟩; obtain ⟨to, tm, tA, tla, tca, tK, tlk, tck, rfl, rfl, rfl, rfl⟩ := hy.shape; have HB1 := Lib.hid (hb1.trans ((below_new w1 (.cells #[.int .i64 to, .int .i64 tm, .slice tA tla tca, .slice tK tlk tck] 57)).mono hb1.size)); clear hy hb1)
    go_ret2
    exact rinternq_same HH.out HB1.out _ _
  | some t =>
    rw [of_some hh]
    rw [hh] at hT
    have HT : Hid (Calls Tryz.prog 37 #[.pointer (some ⟨rb, 0, none⟩), .int .i64 key] w (RTermPost Q w t true)) := Lib.hid hT
    have hszt := h.sz t (hand_mem hh)
    have HI := Lib.hid fun (W5 W2 : World) (A6 : Option Addr) (c6 gk : Nat) (c0 c1 c2 c3 : Value) (k0 : Below w.heap.size w W5) (k1 : Below W5.heap.size W5 W2) (k2 : Bys W2 A6 la d) (k3 : la ≤ c6) (k4 : c6 ≤ maxLen) (k5 : ∀ g off sp, A6 = some ⟨g, off, sp⟩ → W5.heap.size ≤ g) (k6 : W2.heap[gk]? = some (.cells #[c0, c1, c2, c3] 57)) (k7 : W5.heap.size ≤ gk) (k8 : TmC Q W5 t c0 c1 c2 c3) =>
      (rintern_wide (t := .mk op 0 d [t]) (v := .agg #[.int .i64 op, .int .i64 0, .slice A6 la c6, .slice (some ⟨gk, 0, none⟩) 1 1]) (h.below k0).rvl (h.below k0).qb k1 ⟨_, _, _, _, rfl, mk_tm ho (show I64 0 by unfold I64; omega) k2 k3 k4 (fun hl g off sp e => .inr (k5 g off sp e)) (one_tms k6 (.inr k7) (TmC.mono (fun g hg => .inl hg) _ _ _ _ _ (TmC.below k1 _ _ _ _ _ k8))) rfl (Nat.le_refl _) (by unfold maxLen; omega)⟩ (by rw [size_of]; omega)).mono fun e w' hp => RInternQ.from k0 hp
    have HD := Lib.hid (And.intro hd hla)
    clear hT hh h hd hszt
    go_enter Tryz.func34, Tryz.ntmps34
    go_wp2_with (go_at_call 37; refine HT.out.mono ?_; rintro e w1 ⟨v, rfl, ⟨y0, y1, y2, y3, rfl, hy⟩, hb1⟩; obtain ⟨to, tm, tA, tla, tca, tK, tlk, tck, rfl, rfl, rfl, rfl⟩ := hy.shape)
    obtain ⟨W5, hW5, hb5, pb5⟩ := own_term (wt := w1) (.int .i64 to) (.int .i64 tm) (.slice tA tla tca) (.slice tK tlk tck)
    have hbw := hb1.trans (hb5.mono hb1.size)
    rw [hW5]
    obtain ⟨bt, hbt⟩ : ∃ x, w1.heap.size = x := ⟨_, rfl⟩
    rw [hbt] at pb5 ⊢
    have hlt := (Array.getElem?_eq_some_iff.1 pb5).1
    have hd5 := HD.out.1.below hbw
    have ht5 : TmC Q W5 t (.int .i64 to) (.int .i64 tm) (.slice tA tla tca) (.slice tK tlk tck) := TmC.below hb5 _ _ _ _ _ hy
    have hbE : Below W5.heap.size W5 (W5.alloc (.cells #[] 5)) := below_new _ _
    have hbX : Below W5.heap.size W5 (W5.alloc (.cells #[.int .i64 to, .int .i64 tm, .slice tA tla tca, .slice tK tlk tck] 57)) := below_new _ _
    have hsX : (W5.alloc (.cells #[.int .i64 to, .int .i64 tm, .slice tA tla tca, .slice tK tlk tck] 57)).heap.size = W5.heap.size + 1 := by simp
    have hsE : (W5.alloc (.cells #[] 5)).heap.size = W5.heap.size + 1 := by simp
    have hbXE : Below W5.heap.size W5 ((W5.alloc (.cells #[.int .i64 to, .int .i64 tm, .slice tA tla tca, .slice tK tlk tck] 57)).alloc (.cells #[] 5)) := hbX.alloc (by simp) _
    have hbEX : Below W5.heap.size W5 ((W5.alloc (.cells #[] 5)).alloc (.cells #[.int .i64 to, .int .i64 tm, .slice tA tla tca, .slice tK tlk tck] 57)) := hbE.alloc (by simp) _
    have hoa := own_drew (own_base (lit_own (W5.alloc (.cells #[.int .i64 to, .int .i64 tm, .slice tA tla tca, .slice tK tlk tck] 57))) (by simp : W5.heap.size ≤ (W5.alloc (.cells #[.int .i64 to, .int .i64 tm, .slice tA tla tca, .slice tK tlk tck] 57)).heap.size))
    have hob := own_drew (own_below (lit_own W5) (below_new (W5.alloc (.cells #[] 5)) (.cells #[.int .i64 to, .int .i64 tm, .slice tA tla tca, .slice tK tlk tck] 57)))
    have hoc := own_drew (lit_own W5)
    rw [hsX] at hoa
    obtain ⟨Aa, ca6, wa, hruna, hka, hba, hza, hya, hla1, hla2, hla3⟩ := of_ready W5 D la ca d hd5 HD.out.2 _ hbXE.drew _ hoa
    obtain ⟨Ab, cb6, wb, hrunb, hkb, hbb, hzb, hyb, hlb1, hlb2, hlb3⟩ := of_ready W5 D la ca d hd5 HD.out.2 _ hbEX.drew _ hob
    obtain ⟨Ac, cc6, wc, hrunc, hkc, hbc, hzc, hyc, hlc1, hlc2, hlc3⟩ := of_ready W5 D la ca d hd5 HD.out.2 _ hbE.drew _ hoc
    have qXE : ((W5.alloc (.cells #[.int .i64 to, .int .i64 tm, .slice tA tla tca, .slice tK tlk tck] 57)).alloc (.cells #[] 5)).heap[W5.heap.size]? = some (.cells #[.int .i64 to, .int .i64 tm, .slice tA tla tca, .slice tK tlk tck] 57) := (heap_old_ _ _ (by simp)).trans (heap_new_ W5 (.cells #[.int .i64 to, .int .i64 tm, .slice tA tla tca, .slice tK tlk tck] 57))
    have qEX : ((W5.alloc (.cells #[] 5)).alloc (.cells #[.int .i64 to, .int .i64 tm, .slice tA tla tca, .slice tK tlk tck] 57)).heap[W5.heap.size + 1]? = some (.cells #[.int .i64 to, .int .i64 tm, .slice tA tla tca, .slice tK tlk tck] 57) := by have h := heap_new_ (W5.alloc (.cells #[] 5)) (.cells #[.int .i64 to, .int .i64 tm, .slice tA tla tca, .slice tK tlk tck] 57); rwa [hsE] at h
    have qa : wa.heap[W5.heap.size]? = some (.cells #[.int .i64 to, .int .i64 tm, .slice tA tla tca, .slice tK tlk tck] 57) := (hka _ (by show W5.heap.size < ((W5.alloc (.cells #[.int .i64 to, .int .i64 tm, .slice tA tla tca, .slice tK tlk tck] 57)).alloc (.cells #[] 5)).heap.size; simp; omega) (by omega)).trans qXE
    have qb : wb.heap[W5.heap.size + 1]? = some (.cells #[.int .i64 to, .int .i64 tm, .slice tA tla tca, .slice tK tlk tck] 57) := (hkb _ (by show W5.heap.size + 1 < ((W5.alloc (.cells #[] 5)).alloc (.cells #[.int .i64 to, .int .i64 tm, .slice tA tla tca, .slice tK tlk tck] 57)).heap.size; simp) (by omega)).trans qEX
    have hbc2 : Below W5.heap.size W5 (wc.alloc (.cells #[.int .i64 to, .int .i64 tm, .slice tA tla tca, .slice tK tlk tck] 57)) := hbc.alloc hbc.size _
    have HIA := Lib.hid (HI.out W5 wa Aa ca6 W5.heap.size _ _ _ _ hbw hba hya hla1 hla2 hla3 qa (Nat.le_refl _) ht5)
    have HIB := Lib.hid (HI.out W5 wb Ab cb6 (W5.heap.size + 1) _ _ _ _ hbw hbb hyb hlb1 hlb2 hlb3 qb (by omega) ht5)
    have HIC := Lib.hid (HI.out W5 (wc.alloc (.cells #[.int .i64 to, .int .i64 tm, .slice tA tla tca, .slice tK tlk tck] 57)) Ac cc6 wc.heap.size _ _ _ _ hbw hbc2 (hyc.alloc _) hlc1 hlc2 hlc3 (heap_new_ wc (.cells #[.int .i64 to, .int .i64 tm, .slice tA tla tca, .slice tK tlk tck] 57)) hbc.size ht5)
    obtain ⟨x0, x1, x2, x3⟩ := boxT (Below.refl _ _) pb5
    obtain ⟨u0, u1, u2, u3⟩ := boxT hbE pb5
    obtain ⟨z0, z1, z2, z3⟩ := boxT hbc pb5
    clear hW5 hbt pb5 hlt hd5 ht5 hy hb1 hb5 hbw hbE hbX hsX hsE hbXE hbEX hoa hob hoc hka hba hza hya hla1 hla2 hla3 hkb hbb hzb hyb hlb1 hlb2 hlb3 hkc hbc hzc hyc hlc1 hlc2 hlc3 qXE qEX qa qb hbc2 HT HI HD
    go_wp2_with fail
    go_region_law (first | (refine step_run rfl (.tmp 22) (.tmp 23) 29 rfl _ _ _ (by simp [Act.eval]) (by simp [Act.eval]) hruna ?_) | (refine step_run rfl (.tmp 22) (.tmp 23) 29 rfl _ _ _ (by simp [Act.eval]) (by simp [Act.eval]) hrunb ?_) | (refine step_run rfl (.tmp 22) (.tmp 23) 29 rfl _ _ _ (by simp [Act.eval]) (by simp [Act.eval]) hrunc ?_) | (go_simp; go_at_call_of 30 Aa; refine HIA.out.mono ?_; rintro e w4 hp; have HP := Lib.hid hp; obtain ⟨od', Q', rfl, _⟩ := hp) | (go_simp; go_at_call_of 30 Ab; refine HIB.out.mono ?_; rintro e w4 hp; have HP := Lib.hid hp; obtain ⟨od', Q', rfl, _⟩ := hp) | (go_simp; go_at_call_of 30 Ac; refine HIC.out.mono ?_; rintro e w4 hp; have HP := Lib.hid hp; obtain ⟨od', Q', rfl, _⟩ := hp))
    all_goals
      go_wp2
      go_ret2
      exact HP.out
theorem rexp_any {Q : Nat → Prop} {rb : Nat} {od : Option Nat} {L : List Tm} {w : World} (h : Rok Q rb od L w) (key : Int) :
    Calls Tryz.prog 9 #[.pointer (some ⟨rb, 0, none⟩), .int .i64 key] w (RInternQ Q rb od w (ofF L 7 key [])) := by
  have HC := Lib.hid (rof_any h 7 (show I64 7 by unfold I64; omega) key none 0 0 [] (Bys.nil_ _ _) (by omega))
  clear h
  go_enter Tryz.func9, Tryz.ntmps9
  go_wp2_with (go_at_call 34; refine HC.out.mono ?_; rintro e w4 hp; have HP := Lib.hid hp; obtain ⟨od', Q', rfl, _⟩ := hp)
  go_ret2
  exact HP.out
theorem rpub_any {Q : Nat → Prop} {rb : Nat} {od : Option Nat} {L : List Tm} {w : World} (h : Rok Q rb od L w) (key : Int) :
    Calls Tryz.prog 13 #[.pointer (some ⟨rb, 0, none⟩), .int .i64 key] w (RInternQ Q rb od w (ofF L 2 key [])) := by
  have HC := Lib.hid (rof_any h 2 (show I64 2 by unfold I64; omega) key none 0 0 [] (Bys.nil_ _ _) (by omega))
  clear h
  go_enter Tryz.func13, Tryz.ntmps13
  go_wp2_with (go_at_call 34; refine HC.out.mono ?_; rintro e w4 hp; have HP := Lib.hid hp; obtain ⟨od', Q', rfl, _⟩ := hp)
  go_ret2
  exact HP.out
theorem rsign_any {Q : Nat → Prop} {rb : Nat} {od : Option Nat} {L : List Tm} {w : World} (h : Rok Q rb od L w) (key : Int) (D : Option Addr) (la ca : Nat) (d : List Int) (hd : Bys w D la d) (hla : la ≤ 140737488351232) :
    Calls Tryz.prog 15 #[.pointer (some ⟨rb, 0, none⟩), .int .i64 key, .slice D la ca] w (RInternQ Q rb od w (ofF L 3 key d)) := by
  have HC := Lib.hid (rof_any h 3 (show I64 3 by unfold I64; omega) key D la ca d hd hla)
  clear h hd
  go_enter Tryz.func15, Tryz.ntmps15
  go_wp2_with (go_at_call 34; refine HC.out.mono ?_; rintro e w4 hp; have HP := Lib.hid hp; obtain ⟨od', Q', rfl, _⟩ := hp)
  go_ret2
  exact HP.out
theorem rseal_any {Q : Nat → Prop} {rb : Nat} {od : Option Nat} {L : List Tm} {w : World} (h : Rok Q rb od L w) (key : Int) (D : Option Addr) (la ca : Nat) (d : List Int) (hd : Bys w D la d) (hla : la ≤ 140737488351232) :
    Calls Tryz.prog 17 #[.pointer (some ⟨rb, 0, none⟩), .int .i64 key, .slice D la ca] w (RInternQ Q rb od w (ofF L 4 key d)) := by
  have HC := Lib.hid (rof_any h 4 (show I64 4 by unfold I64; omega) key D la ca d hd hla)
  clear h hd
  go_enter Tryz.func17, Tryz.ntmps17
  go_wp2_with (go_at_call 34; refine HC.out.mono ?_; rintro e w4 hp; have HP := Lib.hid hp; obtain ⟨od', Q', rfl, _⟩ := hp)
  go_ret2
  exact HP.out
theorem rkdf_any {Q : Nat → Prop} {rb : Nat} {od : Option Nat} {L : List Tm} {w : World} (h : Rok Q rb od L w) (key : Int) (D : Option Addr) (la ca : Nat) (d : List Int) (hd : Bys w D la d) (hla : la ≤ 140737488351232) :
    Calls Tryz.prog 19 #[.pointer (some ⟨rb, 0, none⟩), .int .i64 key, .slice D la ca] w (RInternQ Q rb od w (ofF L 6 key d)) := by
  have HC := Lib.hid (rof_any h 6 (show I64 6 by unfold I64; omega) key D la ca d hd hla)
  clear h hd
  go_enter Tryz.func19, Tryz.ntmps19
  go_wp2_with (go_at_call 34; refine HC.out.mono ?_; rintro e w4 hp; have HP := Lib.hid hp; obtain ⟨od', Q', rfl, _⟩ := hp)
  go_ret2
  exact HP.out
theorem ratom_any {Q : Nat → Prop} {rb : Nat} {od : Option Nat} {L : List Tm} {w : World} (h : Rok Q rb od L w) (num : Int) (hm : I64 num) :
    Calls Tryz.prog 7 #[.pointer (some ⟨rb, 0, none⟩), .int .i64 num] w (RInternQ Q rb od w (internV (.mk 1 num [] []) L)) := by
  have HC := Lib.hid (rintern_wide (t := .mk 1 num [] []) (v := .agg #[.int .i64 1, .int .i64 num, .slice none 0 0, .slice none 0 0]) h.rvl h.qb (Below.refl _ _) ⟨_, _, _, _, rfl, tm_leaf _ w 1 num (show I64 1 by unfold I64; omega) hm⟩ (by rw [szT_kids]; unfold szTs; omega))
  clear h hm
  go_enter Tryz.func7, Tryz.ntmps7
  go_wp2_with (go_at_call 30; refine HC.out.mono ?_; rintro e w4 hp; have HP := Lib.hid hp; obtain ⟨od', Q', rfl, _⟩ := hp)
  go_ret2
  exact HP.out
set_option maxHeartbeats 4000000 in
theorem rhash_any {Q : Nat → Prop} {rb : Nat} {od : Option Nat} {L : List Tm} {w : World} (h : Rok Q rb od L w) (D : Option Addr) (la ca : Nat) (d : List Int) (hd : Bys w D la d) (hla : la ≤ 140737488351232) :
    Calls Tryz.prog 21 #[.pointer (some ⟨rb, 0, none⟩), .slice D la ca] w (RInternQ Q rb od w (internV (.mk 5 0 d []) L)) := by
  obtain ⟨A6, c6, w6, hrun, hk, hb, hz, hy, hl1, hl2, hl3⟩ := of_ready w D la ca d hd hla (w.alloc (.cells #[] 5)) (below_new _ _) w.heap.size (lit_own w)
  have HC := Lib.hid (rintern_wide (t := .mk 5 0 d []) (v := .agg #[.int .i64 5, .int .i64 0, .slice A6 la c6, .slice none 0 0]) h.rvl h.qb hb ⟨_, _, _, _, rfl, mk_tm (show I64 5 by unfold I64; omega) (show I64 0 by unfold I64; omega) hy hl1 hl2 (fun hl g off sp e => .inr (hl3 g off sp e)) (K := none) (n := 0) (c := 0) (ts := []) (fun e => absurd e (by simp)) rfl (Nat.le_refl _) (Nat.zero_le _)⟩ (by rw [szT_kids]; unfold szTs; omega))
  clear h hd hk hb hz hy hl1 hl2 hl3
  go_enter Tryz.func21, Tryz.ntmps21
  go_wp2_with (first | (at_builtin; refine wpl_append rfl (.tmp 7) (.tmp 8) 29 rfl _ _ _ rfl rfl hrun ?_) | (go_at_call 30; refine HC.out.mono ?_; rintro e w4 hp; have HP := Lib.hid hp; obtain ⟨od', Q', rfl, _⟩ := hp))
  go_ret2
  exact HP.out
end Go.Proofs.YtfmdmahlljbbmaaGreatDoor.vtc
