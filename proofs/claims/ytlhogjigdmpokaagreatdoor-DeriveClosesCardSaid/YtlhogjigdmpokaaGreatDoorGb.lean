/- Does a sealed text mention a handle: the law's own named. -/
import Derived.Test.YtlhogjigdmpokaaGreatDoorGa
namespace Go.Proofs.YtlhogjigdmpokaaGreatDoor.vtc
open Go.RowKit Go.Proofs.YtlhogjigdmpokaaGreatDoor.tlvc Go.Proofs.YtlhogjigdmpokaaGreatDoor.tmc Go.Proofs.YtlhogjigdmpokaaGreatDoor.rfc
set_option linter.unusedVariables false
/-- The i-th term is sealed and mentions x. -/
def Nm (L : List Tm) (i : Nat) (x : Int) : Prop := ∃ m d r, L[i]? = some (Tm.mk 4 m d r) ∧ x ∈ mentionsF d (i : Int)
/-- What the round of a search asks of a term. -/
theorem term_parts {B : Nat → Prop} {w : World} {o m : Int} {d : List Int} {ks : List Tm} {o' m' : Int} {A : Option Addr} {la ca : Nat} {K : Option Addr} {lk ck : Nat} (h : TmC B w (.mk o m d ks) (.int .i64 o') (.int .i64 m') (.slice A la ca) (.slice K lk ck)) : o' = o ∧ m' = m ∧ Bys w A la d ∧ la ≤ ca ∧ ca ≤ maxLen := by
  unfold TmC at h
  obtain ⟨e0, _, e1, _, ⟨A', la', ca', e2, h1, h2, h3, _⟩, _⟩ := h
  cases e0; cases e1; cases e2
  exact ⟨rfl, rfl, h3, h1, h2⟩
section
variable {w0 : World} {vb mb : Nat} {ob : Option Nat} {L : List Tm} {wx : World}
set_option maxRecDepth 100000 in
set_option maxHeartbeats 8000000 in
theorem Vat.named (h : Vat w0 vb mb ob L wx) (x : Int) :
    Calls Tryz.prog 20 #[.pointer (some ⟨vb, 0, none⟩), .int .i64 x] wx fun e w' => (∃ b, e = .returned (.bool b) ∧ (b = true ↔ ∃ i, i < L.length ∧ Nm L i x)) ∧ Below wx.heap.size wx w' := by
  have hL := h.vlt.len
  obtain ⟨N, hN⟩ : ∃ N, L.length = N := ⟨_, rfl⟩
  rw [hN] at hL
  have HV := Lib.hid (And.intro h hN)
  clear h
  go_enter Tryz.func20, Tryz.ntmps20
  go_wp2_with fail
  go_loopg [5] (N + 1) (fun gk s5 wr => ∃ (i : Nat), s5 = .int .i64 (i : Nat) ∧ i ≤ N ∧ N - i < gk ∧ Hid (Below wx.heap.size wx wr ∧ ∀ j, j < i → ¬ Nm L j x))
  case atStart => exact ⟨0, rfl, by omega, by omega, Lib.hid ⟨Below.refl _ _, fun j hj => absurd hj (Nat.not_lt_zero _)⟩⟩
  case round =>
    obtain ⟨i, rfl, hi, hgk, HR⟩ := hrel
    have hln := (HV.out.1.below HR.out.1).len
    rw [HV.out.2] at hln
    have HLN := Lib.hid hln
    clear hln
    by_cases hlt : i < N
    · have hltz : (i : Int) < (N : Int) := by omega
      obtain ⟨gk', rfl⟩ : ∃ g', gk = g' + 1 := ⟨gk - 1, by omega⟩
      have HNX := Lib.hid (And.intro (show i + 1 ≤ N from hlt) (show N - (i + 1) < gk' by omega))
      have HTM := Lib.hid ((HV.out.1.below HR.out.1).term (i : Int))
      clear hgk hi
      go_wp2_with fail
      refine HLN.out.mono ?_
      rintro e w2 ⟨rfl, rfl⟩
      clear HLN
      go_wp2_with fail
      refine HTM.out.mono ?_
      rintro e w3 ⟨t, t0, t1, tA, tla, tca, tK, tlk, tck, rfl, hc3, ht3, hb3⟩
      have hit := ht3 (by rw [HV.out.2]; omega)
      rw [Int.toNat_natCast] at hit
      obtain ⟨t8, t9, d, ks⟩ := t
      obtain ⟨rfl, rfl, hby, hlc, hcm⟩ := term_parts hc3
      have hdl := (alone_data (right_mk.1 (HV.out.1.vlt.right _ (List.mem_of_getElem? hit))).2.1).1
      have hb4 := below_new w3 (.cells #[.int .i64 t0, .int .i64 t1, .slice tA tla tca, .slice tK tlk tck] 43)
      have hq4 := heap_new_ w3 (.cells #[.int .i64 t0, .int .i64 t1, .slice tA tla tca, .slice tK tlk tck] 43)
      obtain ⟨W4, hW4⟩ : ∃ x, w3.alloc (.cells #[.int .i64 t0, .int .i64 t1, .slice tA tla tca, .slice tK tlk tck] 43) = x := ⟨_, rfl⟩
      rw [hW4] at hb4 hq4
      have hla : tla ≤ 100000 := by have := hby.1; omega
      have HME := Lib.hid (rmentions_any tA tla tca d (i : Int) W4 (hby.below hb4) hlc hcm hla)
      have HT4 := Lib.hid (And.intro hit (And.intro hq4 (blw HR.out.1 (blw hb3 hb4))))
      have q0 : W4.cell? ⟨w3.heap.size, 0, none⟩ = some (.int .i64 t0) := (Lib.cell_of_heap hq4 _).trans rfl
      have q2 : W4.cell? ⟨w3.heap.size, 2, none⟩ = some (.slice tA tla tca) := (Lib.cell_of_heap hq4 _).trans rfl
      rw [show decide ((0 : Int) ≤ (i : Int) ∧ (i : Int) < (L.length : Int)) = true from decide_eq_true (by rw [HV.out.2]; omega)]
      clear hc3 ht3 hb3 hit hby hlc hcm hdl hb4 hq4 hla HTM
      go_upto_region 5 with fail
      (try rw [hW4])
      clear hW4
      by_cases ho : t0 = 4
      · subst ho
        go_wp2_with fail
        refine HME.out.mono ?_
        rintro e w5 ⟨A5, c5, rfl, i5, ⟨l5, m5⟩, b5⟩
        have hh := has_any A5 _ c5 _ x w5 i5 l5 m5
        obtain ⟨bm, hbm⟩ : ∃ y, decide (x ∈ mentionsF d (i : Int)) = y := ⟨_, rfl⟩
        rw [hbm] at hh
        have HHA := Lib.hid hh
        have H5 := Lib.hid (And.intro hbm (blw HT4.out.2.2 b5))
        clear i5 l5 m5 b5 hh hbm HME q0 q2
        go_wp2_with fail
        refine HHA.out.mono ?_
        rintro e w6 ⟨rfl, hb6⟩
        have H6 := Lib.hid (blw H5.out.2 hb6)
        clear hb6 HHA
        cases bm
        · go_wp2_with fail
          go_roundg gk'
          case measure => omega
          case rel => exact ⟨i + 1, by go_num, HNX.out.1, HNX.out.2, Lib.hid ⟨H6.out, fun j hj hn => by
            by_cases e : j = i
            · subst e
              obtain ⟨m, d', r, e1, hm⟩ := hn
              rw [HT4.out.1] at e1
              cases e1
              exact of_decide_eq_false H5.out.1 hm
            · exact HR.out.2 j (by omega) hn⟩⟩
        · have HI := Lib.hid hlt
          go_wp2_with fail
          go_ret
          exact ⟨⟨true, rfl, fun _ => ⟨i, by rw [HV.out.2]; exact HI.out, _, _, _, HT4.out.1, of_decide_eq_true H5.out.1⟩, fun _ => rfl⟩, H6.out⟩
      · have hob : (t0 == 4) = false := by rw [beq_eq_false_iff_ne]; exact ho
        have HO := Lib.hid ho
        clear ho
        go_wp2_with fail
        go_roundg gk'
        case measure => omega
        case rel => exact ⟨i + 1, by go_num, HNX.out.1, HNX.out.2, Lib.hid ⟨HT4.out.2.2, fun j hj hn => by
          by_cases e : j = i
          · subst e
            obtain ⟨m, d', r, e1, _⟩ := hn
            rw [HT4.out.1] at e1
            cases e1
            exact HO.out rfl
          · exact HR.out.2 j (by omega) hn⟩⟩
    · obtain rfl : N = i := by omega
      have hltz : ¬ (N : Int) < (N : Int) := by omega
      have HE := Lib.hid (And.intro HR.out.1 (show ¬ ∃ j, j < L.length ∧ Nm L j x from fun ⟨j, hj, hn⟩ => HR.out.2 j (by rw [HV.out.2] at hj; exact hj) hn))
      clear hgk hi
      go_wp2_with fail
      refine HLN.out.mono ?_
      rintro e w2 ⟨rfl, rfl⟩
      clear HLN
      go_wp2_with fail
      go_ret
      exact ⟨⟨false, rfl, by simp; exact fun j hj hn => HE.out.2 ⟨j, hj, hn⟩⟩, HE.out.1⟩
end
end Go.Proofs.YtlhogjigdmpokaaGreatDoor.vtc
