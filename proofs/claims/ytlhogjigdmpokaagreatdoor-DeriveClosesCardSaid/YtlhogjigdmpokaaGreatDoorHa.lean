/- The document's all and is. -/
import Derived.Test.YtlhogjigdmpokaaGreatDoorGc
namespace Go.Proofs.YtlhogjigdmpokaaGreatDoor.vtc
open Go.RowKit Go.Proofs.YtlhogjigdmpokaaGreatDoor.tlvc Go.Proofs.YtlhogjigdmpokaaGreatDoor.tmc Go.Proofs.YtlhogjigdmpokaaGreatDoor.rfc
set_option linter.unusedVariables false
set_option maxRecDepth 100000 in
set_option maxHeartbeats 8000000 in
theorem rall_any (hk : Nat) (hb : List Bool) (A : Option Addr) (m d : Nat) (bs : List Int) (n : Int) (w : World) (hT : Tru w hk 4 hb) (hby : Bys w A m bs) (hmd : m ≤ d) (hdm : d ≤ maxLen) (hm : m ≤ 100000) (hf : Fit bs) (hn : n ≤ (hb.length : Int)) (hN : hb.length ≤ 4096) :
    Calls Tryz.prog 77 #[.slice (some ⟨hk, 0, none⟩) hb.length hb.length, .slice A m d, .int .i64 n] w fun e w' => e = .returned (.bool (allB hb bs n)) ∧ Below w.heap.size w w' := by
  have hbd : ∀ x ∈ mentionsF bs n, 0 ≤ x ∧ x < (hb.length : Int) := fun x hx => by
    obtain ⟨h1, h2⟩ := (mentions_mem _ _ _).1 hx
    have := ((says_iff hf x).1 h2).1.1
    omega
  have HM := Lib.hid (rmentions_any A m d bs n w hby hmd hdm hm)
  have hal : allB hb bs n = (mentionsF bs n).all fun m => hb.getD m.toNat false := rfl
  obtain ⟨mz, hmz⟩ : ∃ z, mentionsF bs n = z := ⟨_, rfl⟩
  obtain ⟨nm, hnm⟩ : ∃ l, mz.length = l := ⟨_, rfl⟩
  obtain ⟨N, hNN⟩ : ∃ l, hb.length = l := ⟨_, rfl⟩
  rw [hmz] at hbd HM hal
  rw [hal]
  have HZ := Lib.hid (And.intro hT (And.intro hbd (And.intro hnm hNN)))
  rw [hNN] at hN ⊢
  obtain ⟨R, hR⟩ : ∃ r, (mz.all fun m => hb.getD m.toNat false) = r := ⟨_, rfl⟩
  rw [hR]
  have HR0 := Lib.hid hR
  clear hT hby hmd hdm hm hf hn hbd hal hmz hNN hR
  go_enter Tryz.func77, Tryz.ntmps77
  go_wp2_with fail
  refine HM.out.mono ?_
  rintro e w3 ⟨A3, c3, rfl, i3, ⟨l3, m3⟩, b3⟩
  rw [hnm] at i3 l3 ⊢
  have h39 : c3 ≤ 9223372036854775807 := by unfold maxLen at m3; omega
  have H3 := Lib.hid (And.intro i3 b3)
  clear i3 m3 b3 HM hnm
  go_wp2_with fail
  go_loopg [8] (nm + 1) (fun gk s8 wx => ∃ (i : Nat), s8 = .int .i64 (i : Nat) ∧ i ≤ nm ∧ nm - i < gk ∧ Hid (Below w3.heap.size w3 wx ∧ ∀ y ∈ mz.take i, hb.getD y.toNat false = true))
  case atStart => exact ⟨0, rfl, by omega, by omega, Lib.hid ⟨Below.refl _ _, by simp⟩⟩
  case round =>
    obtain ⟨i, rfl, hi, hgk, HR⟩ := hrel
    by_cases hlt : i < nm
    · have hltz : (i : Int) < (nm : Int) := by omega
      obtain ⟨gk', rfl⟩ : ∃ g', gk = g' + 1 := ⟨gk - 1, by omega⟩
      have HN := Lib.hid (And.intro (show i + 1 ≤ nm from hlt) (show nm - (i + 1) < gk' by omega))
      obtain ⟨b, off, rfl, _, hc⟩ := (H3.out.1.below HR.out.1).2.2 (by omega)
      have hil : i < mz.length := by rw [HZ.out.2.2.1]; exact hlt
      have hmem : mz.getD i 0 ∈ mz := by rw [List.getD_eq_getElem?_getD, List.getElem?_eq_getElem hil]; exact List.getElem_mem hil
      have hyb := HZ.out.2.1 _ hmem
      obtain ⟨k, hk0⟩ : ∃ k : Nat, mz.getD i 0 = (k : Int) := ⟨(mz.getD i 0).toNat, by omega⟩
      have x0 := hc i hlt
      rw [hk0] at x0 hyb hmem
      have hkN : k < N := by have := HZ.out.2.2.2; omega
      have hkz : (k : Int) < (N : Int) := by omega
      have hk00 : (0 : Int) ≤ (k : Int) := by omega
      have hi00 : (0 : Int) ≤ (i : Int) := by omega
      have htk : mz.take (i + 1) = mz.take i ++ [(k : Int)] := by
        rw [List.take_succ_eq_append_getElem hil, ← hk0, List.getD_eq_getElem?_getD, List.getElem?_eq_getElem hil]
        rfl
      have z0 := cell_on (blw H3.out.2 HR.out.1) (HZ.out.1.at (i := k) (by have := HZ.out.2.2.2; omega))
      obtain ⟨bk, hbk⟩ : ∃ x, hb.getD k false = x := ⟨_, rfl⟩
      rw [hbk] at z0
      have HB := Lib.hid (And.intro hbk (And.intro hmem htk))
      clear hc hil hyb hk0 hmem htk hbk hgk hi
      cases bk
      · have hr : R = false := by
          rw [← HR0.out]
          refine List.all_eq_false.2 ⟨_, HB.out.2.1, ?_⟩
          rw [Int.toNat_natCast, HB.out.1]
          simp
        have HRR := Lib.hid (And.intro hr (blw H3.out.2 HR.out.1))
        clear hr
        go_wp2_with fail
        go_ret
        exact ⟨by rw [HRR.out.1]; rfl, HRR.out.2⟩
      · go_wp2_with fail
        go_roundg gk'
        case measure => omega
        case rel => exact ⟨i + 1, by go_num, HN.out.1, HN.out.2, Lib.hid ⟨HR.out.1, fun y hy => by
          rw [HB.out.2.2] at hy
          rcases List.mem_append.1 hy with h | h
          · exact HR.out.2 y h
          · rw [List.mem_singleton.1 h, Int.toNat_natCast]; exact HB.out.1⟩⟩
    · obtain rfl : nm = i := by omega
      have hltz : ¬ (nm : Int) < (nm : Int) := by omega
      have hr : R = true := by
        rw [← HR0.out]
        refine List.all_eq_true.2 fun y hy => HR.out.2 y ?_
        rw [List.take_of_length_le (by rw [HZ.out.2.2.1]; exact Nat.le_refl _)]
        exact hy
      have HRR := Lib.hid (And.intro hr (blw H3.out.2 HR.out.1))
      clear hr hgk hi
      go_wp2_with fail
      go_ret
      exact ⟨by rw [HRR.out.1]; rfl, HRR.out.2⟩
set_option maxRecDepth 100000 in
set_option maxHeartbeats 8000000 in
theorem ris_any {Q B : Nat → Prop} {rb : Nat} {ob : Option Nat} {L : List Tm} (hk : Nat) (hb : List Bool) (t : Tm) (v : Value) (w : World) (hV : RVl Q w rb ob L) (hT : Tru w hk 4 hb) (hl : hb.length = L.length) (hN : L.length ≤ 4096) (hv : TmV B w t v) :
    Calls Tryz.prog 59 #[.pointer (some ⟨rb, 0, none⟩), .slice (some ⟨hk, 0, none⟩) hb.length hb.length, v] w fun e w' => e = .returned (.bool (isB L hb t)) ∧ Below w.heap.size w w' := by
  obtain ⟨c0, c1, c2, c3, rfl, hc⟩ := hv
  obtain ⟨o, m, A, la, ca, K, lk, ck, rfl, rfl, rfl, rfl⟩ := hc.shape
  have hb0 := below_new w (.cells #[.int .i64 o, .int .i64 m, .slice A la ca, .slice K lk ck] 43)
  have hq0 := heap_new_ w (.cells #[.int .i64 o, .int .i64 m, .slice A la ca, .slice K lk ck] 43)
  obtain ⟨W0, hW0⟩ : ∃ x, w.alloc (.cells #[.int .i64 o, .int .i64 m, .slice A la ca, .slice K lk ck] 43) = x := ⟨_, rfl⟩
  rw [hW0] at hb0 hq0
  have HF := Lib.hid (rfind_any Q B rb ob L t _ W0 (hV.below hb0) ⟨_, _, _, _, rfl, TmC.below hb0 _ _ _ _ _ hc⟩)
  have q0 : W0.cell? ⟨w.heap.size, 0, none⟩ = some (.int .i64 o) := (Lib.cell_of_heap hq0 _).trans rfl
  have q1 : W0.cell? ⟨w.heap.size, 1, none⟩ = some (.int .i64 m) := (Lib.cell_of_heap hq0 _).trans rfl
  have q2 : W0.cell? ⟨w.heap.size, 2, none⟩ = some (.slice A la ca) := (Lib.cell_of_heap hq0 _).trans rfl
  have q3 : W0.cell? ⟨w.heap.size, 3, none⟩ = some (.slice K lk ck) := (Lib.cell_of_heap hq0 _).trans rfl
  have HT := Lib.hid (And.intro hT (And.intro hb0 hl))
  obtain ⟨N, hNN⟩ : ∃ l, hb.length = l := ⟨_, rfl⟩
  rw [hNN] at hl ⊢
  have HNN := Lib.hid hNN
  clear hT hV hc hb0 hq0 hNN
  go_enter Tryz.func59, Tryz.ntmps59
  go_upto_region 1 with fail
  (try rw [hW0])
  clear hW0
  go_wp2_with fail
  refine HF.out.mono ?_
  rintro e w2 ⟨rfl, hb2⟩
  have HB2 := Lib.hid (blw HT.out.2.1 hb2)
  clear hb2 HF q0 q1 q2 q3
  cases hf : findV t L with
  | none =>
    obtain ⟨e1, e2⟩ := numI_not hf
    have hr : isB L hb t = false := by unfold isB; rw [hf]
    rw [e1, show (none : Option Nat).isSome = false from rfl]
    have HR := Lib.hid hr
    clear e1 e2 hr hf
    go_wp2_with fail
    go_ret
    exact ⟨by rw [HR.out]; rfl, HB2.out⟩
  | some x =>
    obtain ⟨e1, e2⟩ := numI_yes hf
    have hxl := findV_lt hf
    have hr : isB L hb t = hb.getD x false := by unfold isB; rw [hf]
    rw [e1, show (some x).isSome = true from rfl]
    have z0 := cell_on HB2.out (HT.out.1.at (i := x) (by have := HNN.out; omega))
    obtain ⟨bx, hbx⟩ : ∃ y, hb.getD x false = y := ⟨_, rfl⟩
    rw [hbx] at z0 hr
    have HR := Lib.hid hr
    have hx0 : (0 : Int) ≤ (x : Int) := by omega
    have hxN : (x : Int) < (N : Int) := by omega
    have hxN2 : x < N := by omega
    clear e1 e2 hr hf hbx
    go_wp2_with fail
    go_ret
    exact ⟨by rw [HR.out]; rfl, HB2.out⟩
end Go.Proofs.YtlhogjigdmpokaaGreatDoor.vtc
