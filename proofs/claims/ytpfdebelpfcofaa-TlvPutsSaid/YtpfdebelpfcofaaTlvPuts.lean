/- The law TlvPuts of warderlaw01 answers true for every tag and every body, and leaves its arguments as they were; no condition. -/
import Derived.Test.YtpfdebelpfcofaaRows
import Derived.WalkKit
import Derived.ProofKit
import Derived.OpenShut
import Derived.ChangeOld
import Derived.Below
import Derived.SizedLaws
import Derived.Test.YtpfdebelpfcofaaTlvO
import Derived.Test.YtpfdebelpfcofaaTlvP
namespace Go.Proofs.Ytpfdebelpfcofaa.tlvPuts
open Go.ChangeShapes Go.WideShapes Go.ChangeAt Go.RowKit
set_option linter.unusedVariables false

theorem own : ownKnob Try.prog.godebug = none := by kernel_rfl
theorem laidOut : laidOutB Try.prog = true := by kernel_rfl

open Go.Proofs.Ytpfdebelpfcofaa.tlvc in
theorem puts_step {w5 wr : World} {base g len1 co k : Nat} {zs : List Int} {z' : Int} (hf : Fit zs) (hz' : 0 ≤ z' ∧ z' ≤ 255) (hown : wr.ownsRow base 5 1 (.slice (some ⟨g, 0, none⟩) len1 co) len1 (vals zs)) (hgr : w5.grownBy wr (some g)) :
    (∃ zs', Fit zs' ∧ (wr.setCell ⟨g, k, none⟩ (.int .u8 z')).ownsRow base 5 1 (.slice (some ⟨g, 0, none⟩) len1 co) len1 (vals zs')) ∧ w5.grownBy (wr.setCell ⟨g, k, none⟩ (.int .u8 z')) (some g) := by
  obtain ⟨h1, h2⟩ := hown.stored k (.int .u8 z')
  refine ⟨⟨zs.set k z', ?_, ?_⟩, grown_trans hgr h2⟩
  · intro x hx
    rcases List.mem_or_eq_of_mem_set hx with h | h
    · exact hf x h
    · rw [h]; exact hz'
  · have : vals (zs.set k z') = (vals zs).set k (.int .u8 z') := by simp [vals, List.map_set]
    rw [this]; exact h1

set_option maxRecDepth 100000 in
set_option maxHeartbeats 1000000 in
theorem walk (a0 : Int) (a1 : Option Addr) (len1 cap1 : Nat) (x1 : List Int) (w : World) (w0 : (Lit.int .u8 a0).wf = true) (w1 : tlvc.Bys w a1 len1 x1) (l1 : len1 ≤ cap1) (r1 : cap1 ≤ 140737488351232) :
    Calls Try.prog 3 #[.int .u8 a0, .slice a1 len1 cap1] w fun e w' => e = .returned (.bool true) ∧ Below w.heap.size w w' := by
  have hf := bounds_u8 w0
  obtain ⟨i0, hi, hz0, hz1, hz2⟩ := info_parts tlvc.Try.info5
  obtain ⟨Y, hY⟩ : ∃ Y, (tlvc.putF a0 x1).1 = Y := ⟨_, rfl⟩
  obtain ⟨E, hE⟩ : ∃ E, (tlvc.putF a0 x1).2 = E := ⟨_, rfl⟩
  have HY := Lib.hid hY
  have HE := Lib.hid hE
  clear hY hE
  go_enter Try.func3, Try.ntmps3
  go_wp2_with fail
  refine (tlvc.head_any _).mono ?_
  rintro e w2 ⟨rfl, hb1⟩
  have hx := w1.below hb1
  have hown0 := World.ownsRow_lit (base := w2.heap.size) (e := 5) (size := 1) w2 #[] 0 (Nat.le_refl _) (Nat.zero_le _) rfl
  go_wp2_with (at_builtin; refine tlvc.wpl_app rfl (.tmp 13) (.tmp 14) 22 rfl w2.heap.size 5 i0 (.int .u8 0) Try.underlying22 hi hz0 hz1 hz2 rfl _ 0 [] rfl hown0 a1 len1 cap1 x1 rfl (hx.alloc _) (by omega) (by simp) ?_)
  intro v3 w3 hown3 hg3
  have hb3 : Below w2.heap.size w2 w3 := ((Below.refl _ _).alloc (Nat.le_refl _) _).grown hg3 (by simp) fun j hj => (hown0.lt j hj).1
  obtain ⟨Ao, co, hv3, hlo, hco, hAo⟩ := tlvc.own_shape hown3
  rw [hv3] at hown3
  rw [hv3]
  clear hv3 hown0 hg3
  have hbo := tlvc.Bys.own hown3 w1.fit
  have hx3 := hx.below hb3
  go_wp2_with fail
  refine (tlvc.put_all _ _ _ _ x1 _ hf hbo).mono ?_
  rw [HY.out, HE.out]
  rintro e w4 ⟨A4, c4, rfl, hb4, hc4, hfr4, hbel4⟩
  have hx4 := hx3.below hbel4
  go_wp2_with fail
  refine (tlvc.refPut_all _ _ _ _ x1 _ hf hx4).mono ?_
  rw [HY.out, HE.out]
  rintro e w5 ⟨A5, c5, rfl, hb5, hc5, hfr5, hbel5⟩
  have hb45 := hb4.below hbel5
  have hown5 := tlvc.own_below (tlvc.own_below hown3 hbel4) hbel5
  have hne4 : ∀ b off, A4 = some ⟨b, off, none⟩ → some b ≠ (Value.slice Ao len1 co).ownBlock := by
    intro b off h e
    have h1 := hfr4 b off h
    have h2 := (hown3.lt b e.symm).2
    omega
  have hne5 : ∀ b off, A5 = some ⟨b, off, none⟩ → some b ≠ (Value.slice Ao len1 co).ownBlock := by
    intro b off h e
    have h1 := hfr5 b off h
    have h2 := (hown3.lt b e.symm).2
    have h3 := hbel4.size
    omega
  have hB5 : Below w.heap.size w w5 := ((hb1.trans (hb3.mono hb1.size)).trans (hbel4.mono (by have := hb1.size; have := hb3.size; omega))).trans (hbel5.mono (by have := hb1.size; have := hb3.size; have := hbel4.size; omega))
  have hbase : w.heap.size ≤ w2.heap.size := hb1.size
  have hfit0 : tlvc.Fit x1 := w1.fit
  clear hx hx3 hx4 hb4 hown3 hbo hfr4 hfr5 hb1 hb3 hbel4 hbel5 w1
  go_wp2_with fail
  go_loopw [11] (fun i wr => ∃ k : Nat, k ≤ len1 ∧ i = .int .i64 k ∧ (∃ zs, tlvc.Fit zs ∧ wr.ownsRow w2.heap.size 5 1 (.slice Ao len1 co) len1 (tlvc.vals zs)) ∧ w5.grownBy wr (Value.slice Ao len1 co).ownBlock) (fun i _ => len1 - (intOf i).toNat)
  case atStart => exact ⟨0, Nat.zero_le _, rfl, ⟨x1, hfit0, hown5⟩, World.grownBy.refl _ _⟩
  case round =>
    obtain ⟨k, hk, rfl, ⟨zs, hfz, hown⟩, hgr⟩ := hrel
    by_cases hlt : k < len1
    · obtain ⟨g, hg, hg2, hg3⟩ := hAo k hlt
      subst hg
      obtain ⟨z, hz, hzb⟩ : ∃ z, zs.getD k 0 = z ∧ (0 ≤ z ∧ z ≤ 255) := ⟨_, rfl, hfz.getD k⟩
      have hcell := tlvc.bys_cell0 (tlvc.Bys.own hown hfz) k hlt
      rw [hz] at hcell
      have hfro := hown.frozenAt k
      clear hAo
      go_wp2
      go_roundw
      case rel =>
        have R := puts_step (k := k) (z' := (z + 1) % 256) hfz (by omega) hown hgr
        exact ⟨k + 1, by omega, by go_num, R.1, R.2⟩
      case measure => simp [intOf]; omega
    · have hb4r := hb45.kept hgr hne4
      have hb5r := hb5.kept hgr hne5
      have hs4 := tlvc.str_now hb4r c4
      have hs5 := tlvc.str_now hb5r c5
      have hend : Below w.heap.size w wr := hB5.grown hgr hB5.size fun j hj => Nat.le_trans hbase (hown.lt j hj).1
      clear hb4r hb5r hb45 hb5 hne4 hne5 hown hown5 hAo
      go_wp2
      go_ret
      exact ⟨rfl, hend⟩

set_option maxRecDepth 100000 in
theorem lifted (os : Os) (started : os.Started) (H : Type) (enc : TypeId × Value → H) :
    ReturnsInHanded {} Try.checked os 3 .any (Rows.tlvPutsSpec.pre6 enc Try.prog Try.f3 Rows.tlvPutsRow.domain false) (Rows.tlvPutsSpec.post enc Try.prog Try.f3 false true false false) := by
  refine returnsInHanded_of_change_sized (C := Try.checked) own started (by kernel_rfl) Try.func3
    (ChangeSpec.witness6 (enc := enc) (C := Try.checked) false ⟨#[], #[.int .u8 0, .slice none 0 0], []⟩ 8 (by kernel_rfl) (by kernel_rfl) (by kernel_rfl) (by kernel_rfl)) ?_
  intro W base args ds gs before hval0 hW hcnd hsz0 _
  have hval : ∀ (j : Nat) t v, Try.f3.params[j]? = some t → args[j]? = some v → Value.okWide Try.prog W .any base t v := hval0
  have hW' := hW
  obtain ⟨p, q, hA0, hV, rfl, hfz, hnd⟩ := hW
  have hA : DataW.TrodAll enc Try.prog W 0 (fun _ => true) true Try.f3.params.toList args.toList ds p := hA0
  have hsz : (DataW.weightsEach Try.prog (Try.f3.params.toList ++ Rows.tlvPutsSpec.plain.varTypes Try.prog) (ds ++ gs)).all (· ≤ reachBytes) = true := hsz0
  rw [Try.params3] at hA hval hsz
  obtain ⟨v0, vs0, d0, ds0, p0, q0, hargs, rfl, rfl, h0, r_0⟩ := trodAll_cons hA
  obtain ⟨v1, vs1, d1, ds1, p1, q1, rfl, rfl, rfl, h1, r_1⟩ := trodAll_cons r_0
  obtain ⟨rfl, rfl, rfl⟩ := trodAll_nil r_1
  obtain rfl : args = #[v0, v1] := by cases args; simp_all
  obtain ⟨rfl, rfl⟩ := trodVars_none hV
  obtain ⟨a0, rfl, rfl, rfl, w0⟩ := open_int Try.underlying5 (hval 0 5 v0 rfl rfl) h0
  obtain ⟨a1, len1, cap1, rfl⟩ := okWide_slice Try.underlying22 (hval 1 22 v1 rfl rfl)
  have k1 := h1
  have lt1 : ∀ x ∈ p1, x.block < W.heap.size := by obtain ⟨m, hm⟩ := k1; exact DataW.trod_lt m _ _ _ hm
  obtain ⟨x1, w1, l1, m1, s1⟩ := tlvc.open_bys Try.underlying22 Try.underlying5 (by kernel_rfl) h1
  have r1 := tlvc.spots_reach hsz s1 (j := 1) rfl rfl Try.underlying22 (of_decide_eq_true (by kernel_rfl))
  clear hA0 hval0
  refine (walk a0 a1 len1 cap1 x1 W w0 w1 l1 r1).mono fun e W' ⟨he, bel⟩ => ?_
  subst he
  exact ⟨_, rfl, _, _, _, [], _, [], hW', trodAll_mk1 (shut_bool Try.underlying4 _), (trodAll_cons_mk (shut_int Try.underlying5 w0) (trodAll_cons_mk (Below.trod laidOut (by kernel_rfl) (of_decide_eq_true (by kernel_rfl)) k1 bel lt1) trodAll_mk0)), rfl, bel.frame _, fun h => by cases h⟩

theorem over : Rows.tlvPutsRow.holds Try.pinned (OpenSpec.ofChange Rows.tlvPutsSpec) :=
  OpenClaim.holds_of_wide 3 Try.f3 rfl rfl rfl rfl rfl rfl rfl ⟨rfl, rfl, rfl, rfl, rfl⟩ rfl rfl rfl rfl rfl (by kernel_rfl) Try.func3 (by kernel_rfl)
    (of_decide_eq_true (by kernel_rfl)) (by unfold Func.isWrapper; first | (rw [if_pos (by decide +kernel)]; kernel_rfl) | (rw [if_neg (by decide +kernel)]; exact ⟨rfl, rfl⟩))
    (fun os started H enc _ => lifted os started H enc)

theorem proved : Rows.TlvPutsSaid := over
#print axioms proved
end Go.Proofs.Ytpfdebelpfcofaa.tlvPuts
