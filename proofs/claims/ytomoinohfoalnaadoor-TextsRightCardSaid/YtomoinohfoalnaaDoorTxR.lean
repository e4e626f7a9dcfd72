/- The program's Prep. -/
import Derived.Test.YtomoinohfoalnaaDoorTxQ
import Derived.Test.YtomoinohfoalnaaDoorTxS
namespace Go.Proofs.YtomoinohfoalnaaDoor.txc
open Go.RowKit Go.Proofs.YtomoinohfoalnaaDoor.txm Go.Proofs.YtomoinohfoalnaaDoor.tlvc
set_option linter.unusedVariables false

theorem kind_ways (r : Int) : kindF r = 1 ∨ kindF r = 2 ∨ kindF r = 3 ∨ kindF r = 0 := by
  unfold kindF; split
  · exact .inl rfl
  · split
    · exact .inr (.inl rfl)
    · split
      · exact .inr (.inr (.inl rfl))
      · exact .inr (.inr (.inr rfl))

/-- What holds at each round of Prep's loop. -/
def PrepAt (s : ByteArray) (B : Nat) (w : World) (parted : Bool) (wr : World) : Prop :=
  ∃ (pos n : Nat) (out : List Int), Bld B B (Lib.byteCells (enc out)) wr ∧ wr.heap[B + 1]? = some (.stringIter s pos) ∧ Below B w wr ∧ ((runesF s n pos).foldl stepP (out, parted)).1 = prepR (runes s) ∧ s.size ≤ pos + n ∧ (enc out).length + (if parted = true then 1 else 0) ≤ 4 * pos

set_option maxRecDepth 100000 in
set_option maxHeartbeats 4000000 in
theorem prep_any (s : ByteArray) (w : World) (hs : s.size ≤ 8796093022208) :
    Calls Tryd.prog 14 #[.string s] w fun e w' => e = .returned (.string ⟨(prepF s).toArray⟩) ∧ Below w.heap.size w w' := by
  go_enter Tryd.func14, Tryd.ntmps14
  go_wp2_with fail
  go_loopw [4, 6] (fun t4 _ wr => ∃ parted : Bool, t4 = .bool parted ∧ PrepAt s w.heap.size w parted wr) (fun _ _ wr => s.size - wr.iterPos (w.heap.size + 1))
  case atStart =>
    refine ⟨false, rfl, 0, s.size, [], (Lib.IsBuilderF.of (Lib.fresh_isBuilder 54 5 w)).alloc _, ?_, ((Below.refl _ w).alloc (Nat.le_refl _) _).alloc (by simp) _, rfl, by omega, by simp [enc]⟩
    have := World.iter_heap (w.alloc (.cells #[.pointer none, .slice none 0 0] 54)) s 0
    simpa using this
  case round =>
    obtain ⟨parted, rfl, pos, n, out, hI, hit, hbw, hacc, hfu, hal⟩ := hrel
    have hsz : w.heap.size + 1 < wr.heap.size := (Array.getElem?_eq_some_iff.1 hit).1
    by_cases hp : pos < s.size
    · have hnx : ∀ ty, (Instr.next (.pointer (some ⟨w.heap.size + 1, 0, none⟩)) true ty).run Tryd.prog wr = _ := fun ty => Lib.run_next_any_at wr (w.heap.size + 1) s pos ty hit hp
      have hwd := width_pos s pos hp
      have hd1 := decode_le s pos
      have hI2 := hI.iterAt hit (pos + (Utf8.decode s pos).2)
      have hit2 := Lib.iterAt_heap wr (w.heap.size + 1) s pos (pos + (Utf8.decode s pos).2) hit
      have hbw2 := Lib.below_iterAt hbw (k := w.heap.size + 1) (by omega) s (pos + (Utf8.decode s pos).2)
      have hsz2 : w.heap.size ≤ (wr.iterAt (w.heap.size + 1) s (pos + (Utf8.decode s pos).2)).heap.size := by rw [Lib.iterAt_size]; omega
      obtain ⟨m, rfl⟩ : ∃ m, n = m + 1 := ⟨n - 1, by omega⟩
      simp only [runesF, hp, if_true, List.foldl_cons] at hacc
      obtain ⟨r, hr⟩ : ∃ r : Nat, (Utf8.decode s pos).1 = r := ⟨_, rfl⟩
      obtain ⟨d, hd⟩ : ∃ d : Nat, (Utf8.decode s pos).2 = d := ⟨_, rfl⟩
      rw [hr, hd] at hnx hacc
      rw [hd] at hwd hI2 hit2 hbw2 hsz2
      rw [hr] at hd1
      obtain ⟨W, hW⟩ : ∃ W, wr.iterAt (w.heap.size + 1) s (pos + d) = W := ⟨_, rfl⟩
      rw [hW] at hnx hI2 hit2 hbw2 hsz2
      have hm : s.size - W.iterPos (w.heap.size + 1) < s.size - wr.iterPos (w.heap.size + 1) := by
        simp only [World.iterPos, hit2, hit]; omega
      clear hI hit hbw hW hr hd
      have HA := Lib.hid hacc
      clear hacc
      have hr0 : (0 : Int) ≤ (r : Int) := by omega
      rcases kind_ways r with hk | hk | hk | hk
      · have HK := Lib.hid hk
        clear hk
        go_wp2_with fail
        refine (kindOf_any _ _).mono ?_
        rw [HK.out]
        rintro e w' ⟨rfl, rfl⟩
        go_wp2
        go_roundw
        case rel => exact ⟨parted, rfl, pos + d, m, out, hI2, hit2, hbw2, by have := HA.out; simpa [stepP, HK.out] using this, by omega, by omega⟩
        case measure => exact hm
      · have HK := Lib.hid hk
        clear hk
        obtain ⟨q, hq⟩ : ∃ q : Nat, (Lib.byteCells (enc out)).length = q := ⟨_, rfl⟩
        have hqo : q = 0 ↔ out = [] := by rw [← hq, Lib.byteCells_length]; exact enc_nil
        have HQ := Lib.hid hq
        clear hq
        go_wp2_with fail
        refine (kindOf_any _ _).mono ?_
        rw [HK.out]
        rintro e w' ⟨rfl, rfl⟩
        go_wp2_with fail
        refine (blen_any hI2).mono ?_
        rw [HQ.out]
        rintro e w' ⟨rfl, rfl⟩
        by_cases h0 : q = 0
        · have ho := hqo.1 h0
          have hc : decide (0 < q) = false := decide_eq_false (by omega)
          have HO := Lib.hid ho
          clear h0 ho hqo
          go_wp2
          go_roundw
          case rel => exact ⟨false, rfl, pos + d, m, out, hI2, hit2, hbw2, by have := HA.out; simpa [stepP, HK.out, HO.out] using this, by omega, by simp; split at hal <;> omega⟩
          case measure => exact hm
        · have ho : out ≠ [] := fun h => h0 (hqo.2 h)
          have hc : decide (0 < q) = true := decide_eq_true (by omega)
          have HO := Lib.hid ho
          clear h0 ho hqo
          go_wp2
          go_roundw
          case rel => exact ⟨true, rfl, pos + d, m, out, hI2, hit2, hbw2, by have := HA.out; simpa [stepP, HK.out, HO.out] using this, by omega, by simp; split at hal <;> omega⟩
          case measure => exact hm
      · have hgr : (r : Int) ≤ 1071 := by
          unfold kindF at hk
          split at hk
          · omega
          · split at hk
            · omega
            · split at hk
              · rename_i h; unfold Great at h; omega
              · omega
        have HK := Lib.hid hk
        clear hk
        go_wp2_with fail
        refine (kindOf_any _ _).mono ?_
        rw [HK.out]
        rintro e w' ⟨rfl, rfl⟩
        cases parted
        · have hI3 := hI2
          have hit3 := hit2
          have hbw3 := hbw2
          go_wp2_with fail
          refine (wrune_any _ (by omega) (by omega) hI3 (by rw [Lib.byteCells_length]; omega)).mono ?_
          rintro e W1 ⟨⟨nn, rfl⟩, h1, b1, k1⟩
          have hit4 := k1.iter hit3 (by omega)
          have hbw4 := hbw3.trans b1
          have hI4 : Bld w.heap.size w.heap.size (Lib.byteCells (enc (out ++ [((r : Int) + 32)]))) W1 := by rw [enc_app, enc_one, Lib.byteCells_append, Lib.byteCells_encodeRune]; exact .inr h1
          have hl4 := enc_len [((r : Int) + 32)]
          go_wp2
          go_roundw
          case rel => exact ⟨false, rfl, pos + d, m, out ++ [((r : Int) + 32)], hI4, hit4, hbw4, by have := HA.out; simpa [stepP, HK.out] using this, by omega, by rw [enc_app, List.length_append]; simp at hl4; simp; omega⟩
          case measure => rw [show W1.iterPos (w.heap.size + 1) = W.iterPos (w.heap.size + 1) from by simp only [World.iterPos, hit4, hit2]]; exact hm
        · have hal' : (enc out).length + 1 ≤ 4 * pos := by simpa using hal
          go_wp2_with fail
          refine (wbyte_any 32 hI2 (by rw [Lib.byteCells_length]; simp at hal; omega)).mono ?_
          rintro e W0 ⟨rfl, h1, b1, k1⟩
          have hit3 := k1.iter hit2 (by omega)
          have hbw3 := hbw2.trans b1
          have hI3 : Bld w.heap.size w.heap.size (Lib.byteCells (enc (out ++ [32]))) W0 := by rw [enc_app, enc_one, encode32, Lib.byteCells_append]; exact .inr h1
          have hl3 : (enc (out ++ [32])).length = (enc out).length + 1 := by rw [enc_app, List.length_append, enc_one, encode32]; rfl
          clear h1 b1 k1
          go_wp2_with fail
          refine (wrune_any _ (by omega) (by omega) hI3 (by rw [Lib.byteCells_length]; omega)).mono ?_
          rintro e W1 ⟨⟨nn, rfl⟩, h1, b1, k1⟩
          have hit4 := k1.iter hit3 (by omega)
          have hbw4 := hbw3.trans b1
          have hI4 : Bld w.heap.size w.heap.size (Lib.byteCells (enc ((out ++ [32]) ++ [((r : Int) + 32)]))) W1 := by rw [enc_app, enc_one, Lib.byteCells_append, Lib.byteCells_encodeRune]; exact .inr h1
          have hl4 := enc_len [((r : Int) + 32)]
          go_wp2
          go_roundw
          case rel => exact ⟨false, rfl, pos + d, m, (out ++ [32]) ++ [((r : Int) + 32)], hI4, hit4, hbw4, by have := HA.out; simpa [stepP, HK.out] using this, by omega, by rw [enc_app, List.length_append]; simp at hl4; simp; omega⟩
          case measure => rw [show W1.iterPos (w.heap.size + 1) = W.iterPos (w.heap.size + 1) from by simp only [World.iterPos, hit4, hit2]]; exact hm
      · have HK := Lib.hid hk
        clear hk
        go_wp2_with fail
        refine (kindOf_any _ _).mono ?_
        rw [HK.out]
        rintro e w' ⟨rfl, rfl⟩
        cases parted
        · have hI3 := hI2
          have hit3 := hit2
          have hbw3 := hbw2
          go_wp2_with fail
          refine (wrune_any _ (by omega) (by omega) hI3 (by rw [Lib.byteCells_length]; omega)).mono ?_
          rintro e W1 ⟨⟨nn, rfl⟩, h1, b1, k1⟩
          have hit4 := k1.iter hit3 (by omega)
          have hbw4 := hbw3.trans b1
          have hI4 : Bld w.heap.size w.heap.size (Lib.byteCells (enc (out ++ [(r : Int)]))) W1 := by rw [enc_app, enc_one, Lib.byteCells_append, Lib.byteCells_encodeRune]; exact .inr h1
          have hl4 := enc_len [(r : Int)]
          go_wp2
          go_roundw
          case rel => exact ⟨false, rfl, pos + d, m, out ++ [(r : Int)], hI4, hit4, hbw4, by have := HA.out; simpa [stepP, HK.out] using this, by omega, by rw [enc_app, List.length_append]; simp at hl4; simp; omega⟩
          case measure => rw [show W1.iterPos (w.heap.size + 1) = W.iterPos (w.heap.size + 1) from by simp only [World.iterPos, hit4, hit2]]; exact hm
        · have hal' : (enc out).length + 1 ≤ 4 * pos := by simpa using hal
          go_wp2_with fail
          refine (wbyte_any 32 hI2 (by rw [Lib.byteCells_length]; simp at hal; omega)).mono ?_
          rintro e W0 ⟨rfl, h1, b1, k1⟩
          have hit3 := k1.iter hit2 (by omega)
          have hbw3 := hbw2.trans b1
          have hI3 : Bld w.heap.size w.heap.size (Lib.byteCells (enc (out ++ [32]))) W0 := by rw [enc_app, enc_one, encode32, Lib.byteCells_append]; exact .inr h1
          have hl3 : (enc (out ++ [32])).length = (enc out).length + 1 := by rw [enc_app, List.length_append, enc_one, encode32]; rfl
          clear h1 b1 k1
          go_wp2_with fail
          refine (wrune_any _ (by omega) (by omega) hI3 (by rw [Lib.byteCells_length]; omega)).mono ?_
          rintro e W1 ⟨⟨nn, rfl⟩, h1, b1, k1⟩
          have hit4 := k1.iter hit3 (by omega)
          have hbw4 := hbw3.trans b1
          have hI4 : Bld w.heap.size w.heap.size (Lib.byteCells (enc ((out ++ [32]) ++ [(r : Int)]))) W1 := by rw [enc_app, enc_one, Lib.byteCells_append, Lib.byteCells_encodeRune]; exact .inr h1
          have hl4 := enc_len [(r : Int)]
          go_wp2
          go_roundw
          case rel => exact ⟨false, rfl, pos + d, m, (out ++ [32]) ++ [(r : Int)], hI4, hit4, hbw4, by have := HA.out; simpa [stepP, HK.out] using this, by omega, by rw [enc_app, List.length_append]; simp at hl4; simp; omega⟩
          case measure => rw [show W1.iterPos (w.heap.size + 1) = W.iterPos (w.heap.size + 1) from by simp only [World.iterPos, hit4, hit2]]; exact hm
    · have hnx : ∀ ty, (Instr.next (.pointer (some ⟨w.heap.size + 1, 0, none⟩)) true ty).run Tryd.prog wr = _ := fun ty => Lib.run_next_end_at wr (w.heap.size + 1) s pos ty hit hp
      have hout : out = prepR (runes s) := by rw [← hacc, runesF_end s n pos hp]; rfl
      have HO := Lib.hid hout
      clear hacc hout
      go_wp2_with fail
      refine (bstr_any hI (by omega)).mono ?_
      rintro e W1 ⟨rfl, b1⟩
      go_wp2
      go_ret
      exact ⟨by rw [HO.out]; rfl, hbw.trans b1⟩
end Go.Proofs.YtomoinohfoalnaaDoor.txc
