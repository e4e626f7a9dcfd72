/- The program's general, and the node of a name's part. -/
import Derived.Test.YthcancakkkjpaaaGreatDoorRf
import Derived.Test.YthcancakkkjpaaaGreatDoorRg
namespace Go.Proofs.YthcancakkkjpaaaGreatDoor.nmc
open Go.RowKit Go.Proofs.YthcancakkkjpaaaGreatDoor.tlvc Go.Proofs.YthcancakkkjpaaaGreatDoor.tlvd Go.Proofs.YthcancakkkjpaaaGreatDoor.ndc Go.Proofs.YthcancakkkjpaaaGreatDoor.txc Go.Proofs.YthcancakkkjpaaaGreatDoor.txm Go.Proofs.YthcancakkkjpaaaGreatDoor.intc Go.Proofs.YthcancakkkjpaaaGreatDoor.intm
set_option linter.unusedVariables false
set_option linter.unusedSimpArgs false
theorem NPost.mono {S S' : Nat → Prop} {w : World} {r : Option Nd} {e : Ending} {w' : World} (hS : ∀ g, S g → S' g) (h : NPost S w r e w') : NPost S' w r e w' := by
  obtain ⟨hb, t, A, la, ca, K, lk, ck, er, e, h⟩ := h
  refine ⟨hb, t, A, la, ca, K, lk, ck, er, e, ?_⟩
  cases r with
  | none => exact h
  | some n => exact ⟨h.1, NdC.mono hS _ _ _ _ h.2⟩
theorem conv_at (W : World) (s : ByteArray) (hs : s.size ≤ maxLen) : ∃ cap W2, (convert 9 22 (.string s)).run Tryz.prog W = .ok (.slice (some ⟨W.heap.size, 0, none⟩) s.size cap) W2 ∧ s.size ≤ cap ∧ cap ≤ maxLen ∧ Bys W2 (some ⟨W.heap.size, 0, none⟩) s.size (bytesI s) ∧ Below W.heap.size W W2 ∧ W2.heap.size = W.heap.size + 1 := by
  have h := run_bytes_of_string (P := Tryz.prog) W 9 22 5 s Tryz.underlying9 Tryz.underlying22 Tryz.underlying5
  exact ⟨_, _, h, grownCap_ge _ _ _ _, grownCap_le_maxLen _ _ _ _ hs, bys_conv (w := W.drew) (grownCap_ge _ _ _ _), ((Below.refl W.heap.size W).drew).alloc (Nat.le_refl _) _, by show (W.drew.alloc _).heap.size = _; rw [size_new]; rfl⟩
theorem wordF_no {s : ByteArray} (h : s.size = 0 ∨ 64 < s.size) : wordF s = none := by
  unfold wordF
  have : wordOK s = false := by
    unfold wordOK
    rcases h with h | h
    · rw [decide_eq_false (by omega : ¬ 1 ≤ s.size)]; rfl
    · rw [decide_eq_false (by omega : ¬ s.size ≤ 64), Bool.and_false]; rfl
  rw [this]
  rfl
theorem wordF_check {s : ByteArray} (h1 : 1 ≤ s.size) (h : s.size ≤ 64) : wordF s = checkF (wordN s) := by
  rw [check_word h]
  unfold wordF wordOK
  rw [decide_eq_true h1, decide_eq_true h]
  rfl
set_option maxRecDepth 100000 in
set_option maxHeartbeats 4000000 in
theorem general_any (s : ByteArray) (w : World) (hs : s.size ≤ maxLen) (hT : Tabs w) :
    Calls Tryz.prog 35 #[.string s] w (NPost (fun g => w.heap.size ≤ g) w (wordF s)) := by
  have h9 : s.size ≤ 9223372036854775807 := by unfold maxLen at hs; omega
  obtain ⟨W0, hW0⟩ : ∃ x, w.alloc (.cells #[.int .u8 0, .slice none 0 0, .slice none 0 0] 25) = x := ⟨_, rfl⟩
  have hb0 : Below w.heap.size w W0 := by rw [← hW0]; exact below_new _ _
  have p0 : W0.heap[w.heap.size]? = some (.cells #[.int .u8 0, .slice none 0 0, .slice none 0 0] 25) := by rw [← hW0]; exact heap_new_ _ _
  have hz0 : W0.heap.size = w.heap.size + 1 := by rw [← hW0]; simp
  by_cases hbad : s.size = 0 ∨ 64 < s.size
  · rw [wordF_no hbad]
    obtain ⟨r0, r1, r2, hB⟩ := res3 (y0 := .int .u8 0) (y1 := .slice none 0 0) (y2 := .slice none 0 0) (Nat.le_refl _) hb0 p0
    have f0 := Lib.frozen_of_heap p0 0
    have f1 := Lib.frozen_of_heap p0 1
    have f2 := Lib.frozen_of_heap p0 2
    have s0 := (Lib.cell_of_heap p0 0).trans rfl
    have s1 := (Lib.cell_of_heap p0 1).trans rfl
    have s2 := (Lib.cell_of_heap p0 2).trans rfl
    have HE := Lib.hid hB
    clear hB hb0 p0 hz0 hT
    rcases hbad with hbad | hbad
    · have hb1 : ((s.size : Int) == 0) = true := by rw [beq_iff_eq]; omega
      have hb2 : (s.size : Int) = 0 := by omega
      go_enter Tryz.func35, Tryz.ntmps35
      go_wp2_with fail
      refine bodyPost_ret (v := .tuple #[.agg #[.int .u8 0, .slice none 0 0, .slice none 0 0], .int .i64 91]) ?_ rfl ⟨HE.out, _, _, _, _, _, _, _, _, rfl, (by decide : (91 : Int) ≠ 0)⟩
      simp [results, Tryz.results35, go_sem, r0, r1, r2]
    · have hb1 : ((s.size : Int) == 0) = false := by rw [beq_eq_false_iff_ne]; omega
      have hb2 : ¬ (s.size : Int) = 0 := by omega
      have hb3 : (64 : Int) < (s.size : Int) := by omega
      go_enter Tryz.func35, Tryz.ntmps35
      go_wp2_with fail
      refine bodyPost_ret (v := .tuple #[.agg #[.int .u8 0, .slice none 0 0, .slice none 0 0], .int .i64 91]) ?_ rfl ⟨HE.out, _, _, _, _, _, _, _, _, rfl, (by decide : (91 : Int) ≠ 0)⟩
      simp [results, Tryz.results35, go_sem, r0, r1, r2]
  · have hb1 : ((s.size : Int) == 0) = false := by rw [beq_eq_false_iff_ne]; omega
    have hb2 : ¬ (s.size : Int) = 0 := by omega
    have hb3 : ¬ (64 : Int) < (s.size : Int) := by omega
    rw [wordF_check (by omega) (by omega)]
    obtain ⟨cp, W2, hcv, hc1, hc2, hby, hbw, hz2⟩ := conv_at W0 s hs
    have hbw2 := below_then hb0 hbw (Nat.le_refl _)
    have hnd : NdC (fun g => w.heap.size < g ∧ g < W2.heap.size) W2 (wordN s) (.int .u8 27) (.slice (some ⟨W0.heap.size, 0, none⟩) s.size cp) (.slice none 0 0) := ndC_leaf (by omega) hc1 hc2 hby (fun _ g off sp e => by cases e; omega)
    have hck := checked_any (wordN s) _ _ _ _ W2 hnd (fun g hg => hg.2) (hT.below hbw2)
    obtain ⟨r, hr⟩ : ∃ x, checkF (wordN s) = x := ⟨_, rfl⟩
    rw [hr] at hck ⊢
    have p2 := (hbw.block w.heap.size (by omega)).trans p0
    have hend : ∀ w3, Below W2.heap.size W2 w3 → ∀ (t : Int) (A : Option Addr) (la ca : Nat) (K : Option Addr) (lk ck : Nat), w3.heap[w.heap.size]? = some (.cells #[.int .u8 0, .slice none 0 0, .slice none 0 0] 25) ∧ Below w.heap.size w w3 := fun w3 h3 _ _ _ _ _ _ _ =>
      ⟨(h3.block _ (by omega)).trans p2, below_then hbw2 h3 (Nat.le_refl _)⟩
    have HC := Lib.hid hck
    have HE := Lib.hid hend
    clear hck hend p2 hnd hbw2 hby hbw hb0 p0 hz0 hz2 hT hr
    go_enter Tryz.func35, Tryz.ntmps35
    go_wp2_with fail
    refine HC.out.mono ?_
    rintro e w3 ⟨hb3, t, A, la, ca, K, lk, ck, er, rfl, hpost⟩
    obtain ⟨p3, hB3⟩ := HE.out w3 hb3 t A la ca K lk ck
    obtain ⟨r0, r1, r2, hB⟩ := res3 (y0 := .int .u8 t) (y1 := .slice A la ca) (y2 := .slice K lk ck) (Nat.le_refl _) hB3 p3
    have f0 := Lib.frozen_of_heap p3 0
    have f1 := Lib.frozen_of_heap p3 1
    have f2 := Lib.frozen_of_heap p3 2
    have s0 := (Lib.cell_of_heap p3 0).trans rfl
    have s1 := (Lib.cell_of_heap p3 1).trans rfl
    have s2 := (Lib.cell_of_heap p3 2).trans rfl
    have HP := Lib.hid hpost
    have HB := Lib.hid hB
    clear hpost hB hB3 hb3 p3 HC HE
    go_wp2_with fail
    refine bodyPost_ret (v := .tuple #[.agg #[.int .u8 t, .slice A la ca, .slice K lk ck], .int .i64 er]) ?_ rfl ⟨HB.out, t, A, la, ca, K, lk, ck, er, rfl, ?_⟩
    · simp [results, Tryz.results35, go_sem, r0, r1, r2]
    · have hp := HP.out
      cases r with
      | none => exact hp
      | some n => exact ⟨hp.1, NdC.mono (fun g hg => by omega) _ _ _ _ (res3_nd (fun g hg => by omega) hp.2)⟩
theorem attrF_no {a : At} (h : objB a.oid = false ∨ 64 < a.text.size) : attrF a = none := by
  unfold attrF
  have : attrOK a = false := by
    unfold attrOK
    rcases h with h | h
    · rw [h]; rfl
    · rw [decide_eq_false (by omega : ¬ a.text.size ≤ 64), Bool.and_false]; rfl
  rw [this]
  rfl
theorem attrF_check {a : At} (ho : objB a.oid = true) (h : a.text.size ≤ 64) : attrF a = (seqF checkF [.mk 6 (encO a.oid) [], .mk 12 (bytesI a.text) []]).map (.mk 48 []) := by
  rw [check_attr ho h]
  unfold attrF attrOK
  rw [ho, decide_eq_true h]
  cases utfS a.text <;> rfl
set_option maxRecDepth 100000 in
set_option maxHeartbeats 8000000 in
theorem putAttr_any (a : At) (S : Nat → Prop) (c0 c1 : Value) (w : World) (ha : atE.hold S w a [c0, c1]) (hT : Tabs w) :
    Calls Tryz.prog 31 #[.agg #[c0, c1]] w (NPost (fun g => w.heap.size ≤ g) w (attrF a)) := by
  obtain ⟨_, _, e, A, la, ca, rfl, rfl, hx1, hx2, hx3, hx4, hx5⟩ := ha
  simp only [List.cons.injEq, and_true] at e
  obtain ⟨rfl, rfl⟩ := e
  obtain ⟨s, hs⟩ : ∃ s, a.text = s := ⟨_, rfl⟩
  obtain ⟨W0, hW0⟩ : ∃ x, (w.alloc (.cells #[.slice A la ca, .string s] 43)).alloc (.cells #[.int .u8 0, .slice none 0 0, .slice none 0 0] 25) = x := ⟨_, rfl⟩
  have hb0 : Below w.heap.size w W0 := by rw [← hW0]; exact (below_new _ _).alloc (by simp) _
  have p0 : W0.heap[w.heap.size + 1]? = some (.cells #[.int .u8 0, .slice none 0 0, .slice none 0 0] 25) := by rw [← hW0]; exact heap_is (by simp)
  have q0 : W0.heap[w.heap.size]? = some (.cells #[.slice A la ca, .string s] 43) := by rw [← hW0, heap_old_ _ _ (by simp)]; exact heap_new_ _ _
  have hz0 : W0.heap.size = w.heap.size + 2 := by rw [← hW0]; simp
  have b0 : W0.cell? ⟨w.heap.size, 0, none⟩ = some (.slice A la ca) := (Lib.cell_of_heap q0 _).trans rfl
  have hput := putOID_any A la ca a.oid W0 (hx3.below hb0) hx1 hx2
  have hno : attrF a = none → ∀ w1, Below W0.heap.size W0 w1 → w1.heap[w.heap.size + 1]? = some (.cells #[.int .u8 0, .slice none 0 0, .slice none 0 0] 25) ∧ Below w.heap.size w w1 ∧ w1.cell? ⟨w.heap.size, 1, none⟩ = some (.string s) := fun _ w1 h1 =>
    ⟨(h1.block _ (by omega)).trans p0, below_then hb0 h1 (Nat.le_refl _), (h1.cell (p := ⟨w.heap.size, 1, none⟩) (by show w.heap.size < _; omega)).trans ((Lib.cell_of_heap q0 _).trans rfl)⟩
  have h9 : s.size ≤ 9223372036854775807 := by rw [hs] at hx5; unfold maxLen at hx5; omega
  by_cases ho : objB a.oid = false
  · rw [putO_no ho] at hput
    have hN := attrF_no (a := a) (.inl ho)
    rw [hN]
    have HC := Lib.hid hput
    have HN := Lib.hid (hno hN)
    clear hput hno p0 q0 hb0 hz0 hT hx1 hx2 hx3 hx4 hx5 ho hN
    go_enter Tryz.func31, Tryz.ntmps31
    go_wp2_with fail
    refine HC.out.mono ?_
    rintro e w1 ⟨A1, c1, rfl, _, hb1⟩
    obtain ⟨p1, hB1, _⟩ := HN.out w1 hb1
    obtain ⟨r0, r1, r2, hB⟩ := res3 (y0 := .int .u8 0) (y1 := .slice none 0 0) (y2 := .slice none 0 0) (Nat.le_succ _) hB1 p1
    have f0 := Lib.frozen_of_heap p1 0
    have f1 := Lib.frozen_of_heap p1 1
    have f2 := Lib.frozen_of_heap p1 2
    have s0 := (Lib.cell_of_heap p1 0).trans rfl
    have s1 := (Lib.cell_of_heap p1 1).trans rfl
    have s2 := (Lib.cell_of_heap p1 2).trans rfl
    have HE := Lib.hid hB
    clear hB hB1 p1 hb1 HC HN
    go_wp2_with fail
    refine bodyPost_ret (v := .tuple #[.agg #[.int .u8 0, .slice none 0 0, .slice none 0 0], .int .i64 91]) ?_ rfl ⟨HE.out, _, _, _, _, _, _, _, _, rfl, (by decide : (91 : Int) ≠ 0)⟩
    simp [results, Tryz.results31, go_sem, r0, r1, r2]
  have ho : objB a.oid = true := by simpa using ho
  rw [putO_yes ho] at hput
  by_cases hbad : 64 < s.size
  · have hN := attrF_no (a := a) (.inr (by rw [hs]; exact hbad))
    rw [hN]
    have hbz : (64 : Int) < (s.size : Int) := by omega
    have HC := Lib.hid hput
    have HN := Lib.hid (hno hN)
    clear hput hno p0 q0 hb0 hz0 hT hx1 hx2 hx3 hx4 hx5 ho hN hbad
    go_enter Tryz.func31, Tryz.ntmps31
    go_wp2_with fail
    refine HC.out.mono ?_
    rintro e w1 ⟨A1, c1, rfl, _, hb1⟩
    obtain ⟨p1, hB1, b1⟩ := HN.out w1 hb1
    obtain ⟨r0, r1, r2, hB⟩ := res3 (y0 := .int .u8 0) (y1 := .slice none 0 0) (y2 := .slice none 0 0) (Nat.le_succ _) hB1 p1
    have f0 := Lib.frozen_of_heap p1 0
    have f1 := Lib.frozen_of_heap p1 1
    have f2 := Lib.frozen_of_heap p1 2
    have s0 := (Lib.cell_of_heap p1 0).trans rfl
    have s1 := (Lib.cell_of_heap p1 1).trans rfl
    have s2 := (Lib.cell_of_heap p1 2).trans rfl
    have HE := Lib.hid hB
    clear hB hB1 p1 hb1 HC HN
    go_wp2_with fail
    refine bodyPost_ret (v := .tuple #[.agg #[.int .u8 0, .slice none 0 0, .slice none 0 0], .int .i64 91]) ?_ rfl ⟨HE.out, _, _, _, _, _, _, _, _, rfl, (by decide : (91 : Int) ≠ 0)⟩
    simp [results, Tryz.results31, go_sem, r0, r1, r2]
  · have hbz : ¬ (64 : Int) < (s.size : Int) := by omega
    rw [attrF_check ho (by rw [hs]; omega), hs]
    have hent := enters_of Tryz.func34 (by kernel_rfl) rfl
    have hseq : ∀ w1 A1 c1, Below W0.heap.size W0 w1 → intc.Here W0.heap.size A1 c1 (encO a.oid) w1 → ∃ cp W2, (convert 9 22 (.string s)).run Tryz.prog w1 = .ok (.slice (some ⟨w1.heap.size, 0, none⟩) s.size cp) W2 ∧
        Calls Tryz.prog 33 #[.slice (some ⟨W2.heap.size, 0, none⟩) 2 2, .func (.func 34) #[] #[]] (W2.alloc (.cells #[.int .u8 6, .slice A1 (encO a.oid).length c1, .slice none 0 0, .int .u8 12, .slice (some ⟨w1.heap.size, 0, none⟩) s.size cp, .slice none 0 0] 25)) (NPost0 (fun g => w.heap.size + 2 ≤ g) (W2.alloc (.cells #[.int .u8 6, .slice A1 (encO a.oid).length c1, .slice none 0 0, .int .u8 12, .slice (some ⟨w1.heap.size, 0, none⟩) s.size cp, .slice none 0 0] 25)) ((seqF checkF [.mk 6 (encO a.oid) [], .mk 12 (bytesI s) []]).map (.mk 48 []))) ∧
        Below w.heap.size w (W2.alloc (.cells #[.int .u8 6, .slice A1 (encO a.oid).length c1, .slice none 0 0, .int .u8 12, .slice (some ⟨w1.heap.size, 0, none⟩) s.size cp, .slice none 0 0] 25)) ∧ (W2.alloc (.cells #[.int .u8 6, .slice A1 (encO a.oid).length c1, .slice none 0 0, .int .u8 12, .slice (some ⟨w1.heap.size, 0, none⟩) s.size cp, .slice none 0 0] 25)).heap[w.heap.size + 1]? = some (.cells #[.int .u8 0, .slice none 0 0, .slice none 0 0] 25) ∧ W2.cell? ⟨w.heap.size, 1, none⟩ = some (.string s) ∧ w1.cell? ⟨w.heap.size, 1, none⟩ = some (.string s) := by
      intro w1 A1 c1 h1 hh
      obtain ⟨cp, W2, hcv, hc1, hc2, hby, hbw, hz2⟩ := conv_at w1 s (by rw [hs] at hx5; exact hx5)
      have hz1 := h1.size
      obtain ⟨W3, hW3⟩ : ∃ x, W2.alloc (.cells #[.int .u8 6, .slice A1 (encO a.oid).length c1, .slice none 0 0, .int .u8 12, .slice (some ⟨w1.heap.size, 0, none⟩) s.size cp, .slice none 0 0] 25) = x := ⟨_, rfl⟩
      have hb3 : Below W2.heap.size W2 W3 := by rw [← hW3]; exact below_new _ _
      have p3 : W3.heap[W2.heap.size]? = some (.cells #[.int .u8 6, .slice A1 (encO a.oid).length c1, .slice none 0 0, .int .u8 12, .slice (some ⟨w1.heap.size, 0, none⟩) s.size cp, .slice none 0 0] 25) := by rw [← hW3]; exact heap_new_ _ _
      have hz3 : W3.heap.size = W2.heap.size + 1 := by rw [← hW3]; simp
      have hB1 := below_then hb0 h1 (Nat.le_refl _)
      have hB2 := below_then hB1 hbw (Nat.le_refl _)
      have hB3 := below_then hB2 hb3 (Nat.le_refl _)
      refine ⟨cp, W2, hcv, ?_, by rw [hW3]; exact hB3, ?_, ?_, ?_⟩
      · rw [hW3]
        have n1 : NdC (fun g => w.heap.size + 2 ≤ g ∧ g < W3.heap.size) W3 (.mk 6 (encO a.oid) []) (.int .u8 6) (.slice A1 (encO a.oid).length c1) (.slice none 0 0) := ndC_leaf (by omega) hh.2.1 hh.2.2.1 ((hh.1.below hbw).below hb3) (fun hn g off sp e => by
          obtain ⟨b', off', e', hb', _⟩ := hh.1.2.2 hn
          have := hh.2.2.2 b' off' e'
          rw [e'] at e; cases e; omega)
        have n2 : NdC (fun g => w.heap.size + 2 ≤ g ∧ g < W3.heap.size) W3 (.mk 12 (bytesI s) []) (.int .u8 12) (.slice (some ⟨w1.heap.size, 0, none⟩) s.size cp) (.slice none 0 0) := ndC_leaf (by omega) hc1 hc2 (hby.below hb3) (fun hn g off sp e => by cases e; omega)
        have hL : Lst ndE (fun g => w.heap.size + 2 ≤ g ∧ g < W3.heap.size) W3 (some ⟨W2.heap.size, 0, none⟩) [.mk 6 (encO a.oid) [], .mk 12 (bytesI s) []] := fun _ => ⟨W2.heap.size, 0, rfl, by omega, ⟨by omega, by omega⟩, fun i hi => by
          match i, hi with
          | 0, _ => exact ⟨[.int .u8 6, .slice A1 (encO a.oid).length c1, .slice none 0 0], fun j u hu => by
              rw [Lib.cell_of_heap p3]
              match j, hu with
              | 0, hu => exact hu
              | 1, hu => exact hu
              | 2, hu => exact hu
              | j + 3, hu => simp at hu, _, _, _, rfl, n1⟩
          | 1, _ => exact ⟨[.int .u8 12, .slice (some ⟨w1.heap.size, 0, none⟩) s.size cp, .slice none 0 0], fun j u hu => by
              rw [Lib.cell_of_heap p3]
              match j, hu with
              | 0, hu => exact hu
              | 1, hu => exact hu
              | 2, hu => exact hu
              | j + 3, hu => simp at hu, _, _, _, rfl, n2⟩⟩
        refine (seqOf_node (fun g => w.heap.size + 2 ≤ g ∧ g < W3.heap.size) (fun g => w.heap.size + 2 ≤ g ∧ g < W3.heap.size) checkF 34 (some ⟨W2.heap.size, 0, none⟩) 2 2 _ W3 (fun g hg => hg.2) rfl hL (Nat.le_refl _) (by unfold maxLen; decide) (by decide) hent ?_).mono fun e w' h => NPost0.mono (fun g hg => by omega) h
        intro x hx W hW k0 k1 k2 hold
        have hN : NdC (fun g => w.heap.size + 2 ≤ g ∧ g < W3.heap.size) W x k0 k1 k2 := by
          obtain ⟨_, _, _, e, h⟩ := hold
          simp only [List.cons.injEq, and_true] at e
          obtain ⟨rfl, rfl, rfl⟩ := e
          exact h
        refine (checked_any x _ k0 k1 k2 W hN (fun g hg => by have := hW.size; omega) (hT.below (below_then hB3 hW (Nat.le_refl _)))).mono fun e w' h => NPost.mono (fun g hg => .inl hg) h
      · rw [hW3]
        exact (hb3.block _ (by omega)).trans ((hbw.block _ (by omega)).trans ((h1.block _ (by omega)).trans p0))
      · exact (hbw.cell (p := ⟨w.heap.size, 1, none⟩) (by show w.heap.size < _; omega)).trans ((h1.cell (p := ⟨w.heap.size, 1, none⟩) (by show w.heap.size < _; omega)).trans ((Lib.cell_of_heap q0 _).trans rfl))
      · exact (h1.cell (p := ⟨w.heap.size, 1, none⟩) (by show w.heap.size < _; omega)).trans ((Lib.cell_of_heap q0 _).trans rfl)
    obtain ⟨R, hR⟩ : ∃ x, (seqF checkF [.mk 6 (encO a.oid) [], .mk 12 (bytesI s) []]).map (Nd.mk 48 []) = x := ⟨_, rfl⟩
    rw [hR] at hseq ⊢
    have HC := Lib.hid hput
    have HS := Lib.hid hseq
    clear hput hno hseq p0 q0 hb0 hz0 hT hx1 hx2 hx3 hx4 hx5 ho hR hent hbad
    go_enter Tryz.func31, Tryz.ntmps31
    go_wp2_with fail
    refine HC.out.mono ?_
    rintro e w1 ⟨A1, c1, rfl, hh, hb1⟩
    obtain ⟨cp, W2, hcv, hcall, hB3, p3, b2, b1⟩ := HS.out w1 A1 c1 hb1 hh
    have HK := Lib.hid hcall
    have HB := Lib.hid (And.intro hB3 p3)
    clear hcall hB3 p3 hb1 hh HC HS
    go_wp2_with fail
    refine HK.out.mono ?_
    rintro e w4 ⟨hb4, hpost⟩
    have hlt := (Array.getElem?_eq_some_iff.1 HB.out.2).1
    have p4 := (hb4.block _ hlt).trans HB.out.2
    have hB4 := below_then HB.out.1 hb4 (Nat.le_refl _)
    cases R with
    | none =>
      have hpost : e = _ := hpost
      subst hpost
      obtain ⟨r0, r1, r2, hB⟩ := res3 (y0 := .int .u8 0) (y1 := .slice none 0 0) (y2 := .slice none 0 0) (Nat.le_succ _) hB4 p4
      have f0 := Lib.frozen_of_heap p4 0
      have f1 := Lib.frozen_of_heap p4 1
      have f2 := Lib.frozen_of_heap p4 2
      have s0 := (Lib.cell_of_heap p4 0).trans rfl
      have s1 := (Lib.cell_of_heap p4 1).trans rfl
      have s2 := (Lib.cell_of_heap p4 2).trans rfl
      have HE := Lib.hid hB
      clear hB hB4 p4 hb4 hlt HK HB
      go_wp2_with fail
      refine bodyPost_ret (v := .tuple #[.agg #[.int .u8 0, .slice none 0 0, .slice none 0 0], .int .i64 91]) ?_ rfl ⟨HE.out, _, _, _, _, _, _, _, _, rfl, (by decide : (91 : Int) ≠ 0)⟩
      simp [results, Tryz.results31, go_sem, r0, r1, r2]
    | some n =>
      obtain ⟨t, A5, la5, ca5, K5, lk5, ck5, rfl, hn⟩ := hpost
      obtain ⟨r0, r1, r2, hB⟩ := res3 (y0 := .int .u8 t) (y1 := .slice A5 la5 ca5) (y2 := .slice K5 lk5 ck5) (Nat.le_succ _) hB4 p4
      have hn2 := res3_nd (b := w.heap.size + 1) (y0 := .int .u8 t) (y1 := .slice A5 la5 ca5) (y2 := .slice K5 lk5 ck5) (fun g hg => by omega) hn
      have f0 := Lib.frozen_of_heap p4 0
      have f1 := Lib.frozen_of_heap p4 1
      have f2 := Lib.frozen_of_heap p4 2
      have s0 := (Lib.cell_of_heap p4 0).trans rfl
      have s1 := (Lib.cell_of_heap p4 1).trans rfl
      have s2 := (Lib.cell_of_heap p4 2).trans rfl
      have HE := Lib.hid (And.intro hB (NdC.mono (B' := fun g => w.heap.size ≤ g) (fun g hg => by omega) _ _ _ _ hn2))
      clear hB hB4 p4 hb4 hlt HK HB hn hn2
      go_wp2_with fail
      refine bodyPost_ret (v := .tuple #[.agg #[.int .u8 t, .slice A5 la5 ca5, .slice K5 lk5 ck5], .int .i64 0]) ?_ rfl ⟨HE.out.1, _, _, _, _, _, _, _, _, rfl, rfl, HE.out.2⟩
      simp [results, Tryz.results31, go_sem, r0, r1, r2]
end Go.Proofs.YthcancakkkjpaaaGreatDoor.nmc
