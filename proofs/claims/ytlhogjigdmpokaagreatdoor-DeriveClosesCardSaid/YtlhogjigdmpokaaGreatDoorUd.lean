/- New, Intern, Find, Term: what the program's vault answers. Term: the term of a number. -/
import Derived.Test.YtlhogjigdmpokaaGreatDoorUc
import Derived.Test.YtlhogjigdmpokaaGreatDoorTd
import Derived.Test.YtlhogjigdmpokaaGreatDoorTc
import Derived.Carry
import Derived.Lib.QuietBelow
import Derived.BigQuiet
import Derived.Test.YtlhogjigdmpokaaGreatDoorTi
namespace Go.Proofs.YtlhogjigdmpokaaGreatDoor.vtc
open Go.RowKit Go.Proofs.YtlhogjigdmpokaaGreatDoor.tlvc Go.Proofs.YtlhogjigdmpokaaGreatDoor.tmc
set_option linter.unusedVariables false
theorem new_any (w : World) : Calls Tryz.prog 25 #[] w fun e w' => e = .returned (.pointer (some ⟨w.heap.size + 1, 0, none⟩)) ∧ Vlt (fun g => w.heap.size ≤ g) w' (w.heap.size + 1) w.heap.size none [] ∧ Below w.heap.size w w' ∧ w'.heap.size = w.heap.size + 2 := by
  have hmm := @run_makeMap Tryz.prog
  have hz : ((w.alloc (.map #[] 0)).alloc (.cells #[.slice none 0 0, .map (some w.heap.size)] 77)).heap.size = w.heap.size + 2 := by simp
  have hv : Vlt (fun g => w.heap.size ≤ g) ((w.alloc (.map #[] 0)).alloc (.cells #[.slice none 0 0, .map (some w.heap.size)] 77)) (w.heap.size + 1) w.heap.size none [] := by
    refine ⟨⟨none, 0, .map [], [], ?_, World.ownsRow_nil _ _ _ _, rfl, rfl, (World.ownsMap_made w _ _ _).alloc _, MapOf.start⟩, fun g hg => ?_, ⟨by omega, (fun e => by cases e), (fun e => by cases e)⟩, fun i j t h => by simp at h, fun i o m d ks h => by simp at h, fun t h => by simp at h, fun t h => by simp at h, by simp⟩
    · have := heap_new_ (w.alloc (.map #[] 0)) (.cells #[.slice none 0 0, .map (some w.heap.size)] 77)
      rwa [show (w.alloc (.map #[] 0)).heap.size = w.heap.size + 1 by simp] at this
    · rcases hg with h | h | h
      · omega
      · omega
      · cases h
  have hb : Below w.heap.size w ((w.alloc (.map #[] 0)).alloc (.cells #[.slice none 0 0, .map (some w.heap.size)] 77)) := (below_new _ _).alloc (by simp) _
  have HE := Lib.hid (And.intro hv (And.intro hb hz))
  clear hv hb hz
  go_enter Tryz.func25, Tryz.ntmps25
  go_wp2
  go_ret
  exact ⟨rfl, HE.out⟩
theorem find_any (S B : Nat → Prop) (vb mb : Nat) (ob : Option Nat) (L : List Tm) (t : Tm) (v : Value) (w : World) (hV : Vlt S w vb mb ob L) (hv : TmV B w t v) (ht : txc.Tab w.heap.size w) (hsz : szT t ≤ 10000) :
    Calls Tryz.prog 17 #[.pointer (some ⟨vb, 0, none⟩), v] w fun e w' => e = .returned (.tuple #[.int .i64 (numI t L), .bool (findV t L).isSome]) ∧ Below w.heap.size w w' := by
  obtain ⟨c0, c1, c2, c3, rfl, hc⟩ := hv
  obtain ⟨oo, mm, A, la, ca, K, n, ck, rfl, rfl, rfl, rfl⟩ := hc.shape
  have hb0 : Below w.heap.size w (w.alloc (.cells #[.int .i64 oo, .int .i64 mm, .slice A la ca, .slice K n ck] 43)) := below_new _ _
  obtain ⟨W0, hW0⟩ : ∃ x, w.alloc (.cells #[.int .i64 oo, .int .i64 mm, .slice A la ca, .slice K n ck] 43) = x := ⟨_, rfl⟩
  rw [hW0] at hb0
  have p0 : W0.heap[w.heap.size]? = some (.cells #[.int .i64 oo, .int .i64 mm, .slice A la ca, .slice K n ck] 43) := by rw [← hW0]; exact heap_new_ _ _
  have hz0 : w.heap.size < W0.heap.size := (Array.getElem?_eq_some_iff.1 p0).1
  have hbox : ∀ W, Below W0.heap.size W0 W → W.cell? ⟨w.heap.size, 0, none⟩ = some (.int .i64 oo) ∧ W.cell? ⟨w.heap.size, 1, none⟩ = some (.int .i64 mm) ∧ W.cell? ⟨w.heap.size, 2, none⟩ = some (.slice A la ca) ∧ W.cell? ⟨w.heap.size, 3, none⟩ = some (.slice K n ck) := fun W hW => by
    have h := (hW.block w.heap.size (by omega)).trans p0
    exact ⟨(Lib.cell_of_heap h _).trans rfl, (Lib.cell_of_heap h _).trans rfl, (Lib.cell_of_heap h _).trans rfl, (Lib.cell_of_heap h _).trans rfl⟩
  have C1 := right_any t B (.agg #[.int .i64 oo, .int .i64 mm, .slice A la ca, .slice K n ck]) W0 ⟨_, _, _, _, rfl, TmC.below hb0 _ _ _ _ _ hc⟩
  have hV0 := hV.below hb0
  have C2 := fun (hr : rightF t 0 = true) (W : World) (hW : Below W0.heap.size W0 W) => num_any t hsz hr S B vb mb ob L (.agg #[.int .i64 oo, .int .i64 mm, .slice A la ca, .slice K n ck]) W (hV0.below hW) ⟨_, _, _, _, rfl, TmC.below (hb0.trans (hW.mono hb0.size)) _ _ _ _ _ hc⟩ (((ht.on hb0).mono hb0.size).on hW |>.mono hW.size)
  have hno : rightF t 0 = false → findV t L = none := fun h => findV_none.2 fun e => by rw [hV.right t e] at h; cases h
  obtain ⟨b0, b1, b2, b3⟩ := hbox W0 (Below.refl _ _)
  have HC2 := Lib.hid C2
  have HB0 := Lib.hid hb0
  have HBX := Lib.hid hbox
  cases hr : rightF t 0 with
  | true =>
    rw [hr] at C1
    have HC1 := Lib.hid C1
    have HR := Lib.hid hr
    obtain ⟨is, his⟩ : ∃ x, (findV t L).isSome = x := ⟨_, rfl⟩
    obtain ⟨NI, hNI⟩ : ∃ x, numI t L = x := ⟨_, rfl⟩
    rw [his, hNI] at HC2 ⊢
    clear C1 C2 hr hb0 hbox hc hV hV0 ht hno p0 hz0 his hNI
    go_enter Tryz.func17, Tryz.ntmps17
    go_wp2_with (first | (go_at_call 36; refine HC1.out.mono ?_; rintro e w1 ⟨rfl, hb1⟩; obtain ⟨y0, y1, y2, y3⟩ := HBX.out w1 hb1) | (go_at_call 37; refine (HC2.out HR.out w1 hb1).mono ?_; rintro e w2 ⟨rfl, hb2⟩))
    clear y0 y1 y2 y3 b0 b1 b2 b3
    have HE := Lib.hid (HB0.out.trans ((hb1.trans (hb2.mono hb1.size)).mono HB0.out.size))
    clear hb1 hb2
    go_wp2
    go_ret2
    exact ⟨rfl, HE.out⟩
  | false =>
    rw [hr] at C1
    have HC1 := Lib.hid C1
    rw [numI_none (hno hr), hno hr]
    clear C1 C2 hr hb0 hbox hc hV hV0 ht hno p0 hz0 HC2
    show Calls _ _ _ _ fun e w' => e = .returned (.tuple #[.int .i64 (-1), .bool false]) ∧ Below w.heap.size w w'
    go_enter Tryz.func17, Tryz.ntmps17
    go_wp2_with (first | (go_at_call 36; refine HC1.out.mono ?_; rintro e w1 ⟨rfl, hb1⟩))
    have HE := Lib.hid (HB0.out.trans (hb1.mono HB0.out.size))
    clear hb1
    go_wp2
    go_ret2
    exact ⟨rfl, HE.out⟩
theorem intern_no {t : Tm} {L : List Tm} (h : rightF t 0 = false) : internV t L = (-1, 51, L) := by
  unfold internV
  rw [if_neg (by rw [h]; decide)]
theorem intern_had {t : Tm} {L : List Tm} {i : Nat} (h : rightF t 0 = true) (hf : findV t L = some i) : internV t L = ((i : Int), 0, L) := by
  unfold internV
  rw [if_pos h, hf]
theorem intern_full {t : Tm} {L : List Tm} (h : rightF t 0 = true) (hf : findV t L = none) (hl : ¬ L.length + szT t ≤ 4096) : internV t L = (-1, 2, L) := by
  unfold internV
  rw [if_pos h, hf]
  show (if L.length + szT t ≤ 4096 then _ else _) = _
  rw [if_neg hl]
theorem intern_new {t : Tm} {L : List Tm} (h : rightF t 0 = true) (hf : findV t L = none) (hl : L.length + szT t ≤ 4096) : internV t L = (((putV t L).length : Int) - 1, 0, putV t L) := by
  unfold internV
  rw [if_pos h, hf]
  show (if L.length + szT t ≤ 4096 then _ else _) = _
  rw [if_pos hl]
def InternPost (S : Nat → Prop) (vb mb : Nat) (ob : Option Nat) (w : World) (r : Int × Int × List Tm) (e : Ending) (w' : World) : Prop := ∃ ob', e = .returned (.tuple #[.int .i64 r.1, .int .i64 r.2.1]) ∧ Vlt (fun g => S g ∨ w.heap.size ≤ g) w' vb mb ob' r.2.2 ∧ (ob' = ob ∨ ∃ g, ob' = some g ∧ w.heap.size ≤ g) ∧ Off (Mut vb mb ob) w w'
theorem intern_same {S : Nat → Prop} {vb mb : Nat} {ob : Option Nat} {L : List Tm} {w w' : World} (hV : Vlt S w vb mb ob L) (h : Below w.heap.size w w') (n e : Int) : InternPost S vb mb ob w (n, e, L) (.returned (.tuple #[.int .i64 n, .int .i64 e])) w' :=
  ⟨ob, rfl, (hV.below h).mono fun g hg => .inl hg, .inl rfl, Off.of_below h⟩
set_option maxRecDepth 100000 in
set_option maxHeartbeats 8000000 in
theorem intern_any (S B : Nat → Prop) (base vb mb : Nat) (ob : Option Nat) (L : List Tm) (t : Tm) (v : Value) (w : World) (hV : Vlt S w vb mb ob L) (hv : TmV B w t v) (hBM : ∀ g, B g → ¬ Mut vb mb ob g) (ht : txc.Tab base w) (hbase : base ≤ w.heap.size) (hmb : ∀ g, Mut vb mb ob g → base ≤ g) (hsz : szT t ≤ 10000) :
    Calls Tryz.prog 26 #[.pointer (some ⟨vb, 0, none⟩), v] w (InternPost S vb mb ob w (internV t L)) := by
  obtain ⟨c0, c1, c2, c3, rfl, hc⟩ := hv
  obtain ⟨oo, mm, A, la, ca, K, n, ck, rfl, rfl, rfl, rfl⟩ := hc.shape
  have hb0 : Below w.heap.size w (w.alloc (.cells #[.int .i64 oo, .int .i64 mm, .slice A la ca, .slice K n ck] 43)) := below_new _ _
  obtain ⟨W0, hW0⟩ : ∃ x, w.alloc (.cells #[.int .i64 oo, .int .i64 mm, .slice A la ca, .slice K n ck] 43) = x := ⟨_, rfl⟩
  rw [hW0] at hb0
  have p0 : W0.heap[w.heap.size]? = some (.cells #[.int .i64 oo, .int .i64 mm, .slice A la ca, .slice K n ck] 43) := by rw [← hW0]; exact heap_new_ _ _
  have hz0 : w.heap.size < W0.heap.size := (Array.getElem?_eq_some_iff.1 p0).1
  have hbox : ∀ W, Below W0.heap.size W0 W → W.cell? ⟨w.heap.size, 0, none⟩ = some (.int .i64 oo) ∧ W.cell? ⟨w.heap.size, 1, none⟩ = some (.int .i64 mm) ∧ W.cell? ⟨w.heap.size, 2, none⟩ = some (.slice A la ca) ∧ W.cell? ⟨w.heap.size, 3, none⟩ = some (.slice K n ck) := fun W hW => by
    have h := (hW.block w.heap.size (by omega)).trans p0
    exact ⟨(Lib.cell_of_heap h _).trans rfl, (Lib.cell_of_heap h _).trans rfl, (Lib.cell_of_heap h _).trans rfl, (Lib.cell_of_heap h _).trans rfl⟩
  have hte : ∀ W, Below W0.heap.size W0 W → TmV B W t (.agg #[.int .i64 oo, .int .i64 mm, .slice A la ca, .slice K n ck]) := fun W hW => ⟨_, _, _, _, rfl, TmC.below (hb0.trans (hW.mono hb0.size)) _ _ _ _ _ hc⟩
  have C1 := right_any t B (.agg #[.int .i64 oo, .int .i64 mm, .slice A la ca, .slice K n ck]) W0 (hte W0 (Below.refl _ _))
  have hV0 := hV.below hb0
  have C2 := fun (hr : rightF t 0 = true) (W : World) (hW : Below W0.heap.size W0 W) => num_any t hsz hr S B vb mb ob L (.agg #[.int .i64 oo, .int .i64 mm, .slice A la ca, .slice K n ck]) W (hV0.below hW) (hte W hW) ((ht.on ((hb0.trans (hW.mono hb0.size)).mono hbase)).mono (Nat.le_trans hbase (Nat.le_trans hb0.size hW.size)))
  obtain ⟨b0, b1, b2, b3⟩ := hbox W0 (Below.refl _ _)
  have HC2 := Lib.hid C2
  have HB0 := Lib.hid hb0
  have HBX := Lib.hid hbox
  have HV := Lib.hid hV
  have HV0 := Lib.hid hV0
  have HTE := Lib.hid hte
  have HLT := Lib.hid hz0
  have HT := Lib.hid (And.intro ht (And.intro hbase (And.intro hmb hBM)))
  cases hr : rightF t 0 with
  | false =>
    rw [intern_no hr]
    rw [hr] at C1
    have HC1 := Lib.hid C1
    clear C1 C2 hr hb0 hbox hc hV hV0 ht p0 hz0 HC2 hte hbase hmb hBM
    go_enter Tryz.func26, Tryz.ntmps26
    go_wp2_with (first | (go_at_call 36; refine HC1.out.mono ?_; rintro e w1 ⟨rfl, hb1⟩))
    have HE := Lib.hid (HB0.out.trans (hb1.mono HB0.out.size))
    clear hb1
    go_wp2
    go_ret2
    exact intern_same HV.out HE.out _ _
  | true =>
    rw [hr] at C1
    have HC1 := Lib.hid C1
    cases hf : findV t L with
    | some i =>
      rw [intern_had hr hf]
      have C3 := HC2.out hr
      rw [numI_some hf, hf] at C3
      have HC3 := Lib.hid C3
      clear C1 C2 C3 hr hb0 hbox hc hV hV0 ht p0 hz0 HC2 hte hbase hmb hBM hf
      go_enter Tryz.func26, Tryz.ntmps26
      go_wp2_with (first | (go_at_call 36; refine HC1.out.mono ?_; rintro e w1 ⟨rfl, hb1⟩; obtain ⟨y0, y1, y2, y3⟩ := HBX.out w1 hb1) | (go_at_call 37; refine (HC3.out w1 hb1).mono ?_; rintro e w2 ⟨rfl, hb2⟩))
      have HE := Lib.hid (HB0.out.trans ((hb1.trans (hb2.mono hb1.size)).mono HB0.out.size))
      clear hb1 hb2 y0 y1 y2 y3
      go_wp2
      go_ret2
      exact intern_same HV.out HE.out _ _
    | none =>
      have C3 := HC2.out hr
      rw [numI_none hf, hf] at C3
      have HC3 := Lib.hid C3
      have hlen : ∀ (W : World), Below W0.heap.size W0 W → ∀ (q : Nat) (os : Array Obj), Calls Tryz.prog 16 #[.pointer (some ⟨vb, 0, none⟩)] (Sort.grow (redrawn W q) os) fun e w' => e = .returned (.int .i64 L.length) ∧ Below (Sort.grow (redrawn W q) os).heap.size (Sort.grow (redrawn W q) os) w' := fun W hW q os => by
        obtain ⟨A9, c9, x0, _⟩ := ((HV0.out.below hW).below (below_regrown W q os)).cells
        exact (len_cell vb L.length c9 A9 (Sort.grow (redrawn W q) os) x0).mono fun e w' ⟨h1, h2⟩ => ⟨h1, by rw [h2]; exact Below.refl _ _⟩
      have hsize := fun (W : World) (hW : Below W0.heap.size W0 W) (q : Nat) (os : Array Obj) => size_any 10000 t hsz (by omega) (.agg #[.int .i64 oo, .int .i64 mm, .slice A la ca, .slice K n ck]) (Sort.grow (redrawn W q) os) (TmV.below (HTE.out W hW) (below_regrown W q os))
      have HLEN := Lib.hid hlen
      have HSIZE := Lib.hid hsize
      have hll := HV.out.len
      obtain ⟨l, hl⟩ : ∃ x, L.length = x := ⟨_, rfl⟩
      obtain ⟨z, hz⟩ : ∃ x, szT t = x := ⟨_, rfl⟩
      rw [hl] at HLEN hll
      rw [hz] at HSIZE hsz
      have hwrap : IntKind.i64.wrap ((l : Int) + (z : Int)) = (l : Int) + (z : Int) := IntWalk.i64_in _ (by omega)
      by_cases hroom : l + z ≤ 4096
      · have hrz : ¬ (4096 : Int) < (l : Int) + (z : Int) := by omega
        rw [intern_new hr hf (by omega)]
        have C4 := fun (W : World) (hW : Below W0.heap.size W0 W) => put_any t hr S (fun g => B g ∧ g < w.heap.size) base vb mb ob L (.agg #[.int .i64 oo, .int .i64 mm, .slice A la ca, .slice K n ck]) W (hV0.below hW) ⟨_, _, _, _, rfl, TmC.below (hb0.trans (hW.mono hb0.size)) _ _ _ _ _ (TmC.bound _ _ _ _ _ hc)⟩ (fun g hg => hBM g hg.1) (ht.on ((hb0.trans (hW.mono hb0.size)).mono hbase)) (Nat.le_trans hbase (Nat.le_trans hb0.size hW.size)) hmb (by omega)
        have HC4 := Lib.hid C4
        have HF := Lib.hid (And.intro hf (And.intro hr hl))
        clear C1 C2 C3 hb0 hbox hc hV hV0 ht p0 hz0 HC2 hte hbase hmb hBM hf hlen hsize hr C4 hl hz
        go_enter Tryz.func26, Tryz.ntmps26
        go_wp2_with (first | (go_at_call 36; refine HC1.out.mono ?_; rintro e w1 ⟨rfl, hb1⟩; obtain ⟨y0, y1, y2, y3⟩ := HBX.out w1 hb1) | (go_at_call 37; refine (HC3.out w1 hb1).mono ?_; rintro e w2 ⟨rfl, hb2⟩))
        have hb3 := hb1.trans (hb2.mono hb1.size)
        have HB3 := Lib.hid hb3
        have z4 := fun (q : Nat) (os : Array Obj) => HBX.out _ (hb3.trans ((below_regrown w2 q os).mono hb3.size))
        have z0 := fun q os => (z4 q os).1
        have z1 := fun q os => (z4 q os).2.1
        have z2 := fun q os => (z4 q os).2.2.1
        have z3 := fun q os => (z4 q os).2.2.2
        have HL2 := Lib.hid (HLEN.out w2 hb3)
        have HS2 := Lib.hid (HSIZE.out w2 hb3)
        clear hb1 hb2 hb3 y0 y1 y2 y3 b0 b1 b2 b3 z4
        refine wp_region_quiet_below (by kernel_rfl) (by kernel_rfl) ?_
        repeat (go_big_quiet_step ((first | (go_at_call 16; refine Calls.regrown_of (HL2.out _ _)) | (go_at_call 45; refine Calls.regrown_of (HS2.out _ _)))))
        refine wpQuiet_nil ?_
        intro _ hw'
        obtain ⟨⟨nq, osq⟩, hw''⟩ := hw'
        subst hw''
        obtain ⟨W, hW⟩ : ∃ x, Sort.grow (redrawn w2 nq) osq = x := ⟨_, rfl⟩
        have hbW : Below W0.heap.size W0 W := by rw [← hW]; exact HB3.out.trans ((below_regrown w2 nq osq).mono HB3.out.size)
        rw [hW]
        obtain ⟨y0, y1, y2, y3⟩ := HBX.out W hbW
        have HBW := Lib.hid hbW
        clear hbW hW z0 z1 z2 z3 HL2 HS2
        go_wp2_with (go_at_call 46; refine (HC4.out W HBW.out).mono ?_; rintro e w4 ⟨i, ob', rfl, hi, hV4, hob4, hoff4⟩)
        have HE := Lib.hid (And.intro hi (And.intro hV4 (And.intro hob4 hoff4)))
        clear hi hV4 hob4 hoff4 y0 y1 y2 y3
        go_wp2
        go_ret2
        obtain ⟨hi, hV4, hob4, hoff4⟩ := HE.out
        have hbw : Below w.heap.size w W := HB0.out.trans (HBW.out.mono HB0.out.size)
        obtain ⟨g1, g2⟩ := put_last (findV_none.1 HF.out.1)
        have g3 := (findV_once hV4.once).2 g1
        rw [hi] at g3
        have g4 : i = (putV t L).length - 1 := Option.some.inj g3
        have hs := hbw.size
        refine ⟨ob', ?_, hV4.mono fun g hg => hg.imp id fun e => by omega, hob4.imp id (fun ⟨g, e, hg⟩ => ⟨g, e, by omega⟩), (Off.of_below (S := Mut vb mb ob) hbw).trans hoff4 (fun _ _ e => e) (fun _ _ e => e)⟩
        have g5 : (i : Int) = ((putV t L).length : Int) - 1 := by omega
        rw [g5]
        rfl
      · have hrz : (4096 : Int) < (l : Int) + (z : Int) := by omega
        rw [intern_full hr hf (by omega)]
        clear C1 C2 C3 hb0 hbox hc hV hV0 ht p0 hz0 HC2 hte hbase hmb hBM hf hlen hsize hr hl hz
        go_enter Tryz.func26, Tryz.ntmps26
        go_wp2_with (first | (go_at_call 36; refine HC1.out.mono ?_; rintro e w1 ⟨rfl, hb1⟩; obtain ⟨y0, y1, y2, y3⟩ := HBX.out w1 hb1) | (go_at_call 37; refine (HC3.out w1 hb1).mono ?_; rintro e w2 ⟨rfl, hb2⟩))
        have hb3 := hb1.trans (hb2.mono hb1.size)
        have HB3 := Lib.hid hb3
        have z4 := fun (q : Nat) (os : Array Obj) => HBX.out _ (hb3.trans ((below_regrown w2 q os).mono hb3.size))
        have z0 := fun q os => (z4 q os).1
        have z1 := fun q os => (z4 q os).2.1
        have z2 := fun q os => (z4 q os).2.2.1
        have z3 := fun q os => (z4 q os).2.2.2
        have HL2 := Lib.hid (HLEN.out w2 hb3)
        have HS2 := Lib.hid (HSIZE.out w2 hb3)
        clear hb1 hb2 hb3 y0 y1 y2 y3 b0 b1 b2 b3 z4
        refine wp_region_quiet_below (by kernel_rfl) (by kernel_rfl) ?_
        repeat (go_big_quiet_step ((first | (go_at_call 16; refine Calls.regrown_of (HL2.out _ _)) | (go_at_call 45; refine Calls.regrown_of (HS2.out _ _)))))
        refine wpQuiet_nil ?_
        intro _ hw'
        obtain ⟨⟨nq, osq⟩, hw''⟩ := hw'
        subst hw''
        obtain ⟨W, hW⟩ : ∃ x, Sort.grow (redrawn w2 nq) osq = x := ⟨_, rfl⟩
        have hbW : Below W0.heap.size W0 W := by rw [← hW]; exact HB3.out.trans ((below_regrown w2 nq osq).mono HB3.out.size)
        rw [hW]
        have HBW := Lib.hid hbW
        clear hbW hW z0 z1 z2 z3 HL2 HS2
        have HE := Lib.hid (HB0.out.trans (HBW.out.mono HB0.out.size))
        go_wp2
        go_ret2
        exact intern_same HV.out HE.out _ _
end Go.Proofs.YtlhogjigdmpokaaGreatDoor.vtc
namespace Go.Proofs.YtlhogjigdmpokaaGreatDoor.vtc
open Go.RowKit Go.Proofs.YtlhogjigdmpokaaGreatDoor.tlvc Go.Proofs.YtlhogjigdmpokaaGreatDoor.tmc
set_option linter.unusedVariables false
def TermPost (w : World) (t : Tm) (is : Bool) (e : Ending) (w' : World) : Prop := ∃ v, e = .returned (.tuple #[v, .bool is]) ∧ TmV (fun g => w.heap.size ≤ g) w' t v ∧ Below w.heap.size w w'
set_option maxRecDepth 100000 in
set_option maxHeartbeats 4000000 in
theorem term_no (S : Nat → Prop) (vb mb : Nat) (ob : Option Nat) (L : List Tm) (n : Int) (w : World) (hV : Vlt S w vb mb ob L) (hn : n < 0 ∨ (L.length : Int) ≤ n) :
    Calls Tryz.prog 18 #[.pointer (some ⟨vb, 0, none⟩), .int .i64 n] w (TermPost w (.mk 0 0 [] []) false) := by
  obtain ⟨W0, hW0⟩ : ∃ x, w.alloc (.cells #[.int .i64 0, .int .i64 0, .slice none 0 0, .slice none 0 0] 43) = x := ⟨_, rfl⟩
  have hb0 : Below w.heap.size w W0 := by rw [← hW0]; exact below_new _ _
  have p0 : W0.heap[w.heap.size]? = some (.cells #[.int .i64 0, .int .i64 0, .slice none 0 0, .slice none 0 0] 43) := by rw [← hW0]; exact heap_new_ _ _
  have hV0 := hV.below hb0
  obtain ⟨A9, c9, x0, _⟩ := hV0.cells
  have f := fun i => Lib.frozen_of_heap p0 i
  have f0 := f 0
  have f1 := f 1
  have f2 := f 2
  have f3 := f 3
  have t0 : W0.cell? ⟨w.heap.size, 0, none⟩ = some (.int .i64 0) := (Lib.cell_of_heap p0 _).trans rfl
  have t1 : W0.cell? ⟨w.heap.size, 1, none⟩ = some (.int .i64 0) := (Lib.cell_of_heap p0 _).trans rfl
  have t2 : W0.cell? ⟨w.heap.size, 2, none⟩ = some (.slice none 0 0) := (Lib.cell_of_heap p0 _).trans rfl
  have t3 : W0.cell? ⟨w.heap.size, 3, none⟩ = some (.slice none 0 0) := (Lib.cell_of_heap p0 _).trans rfl
  obtain ⟨r0, r1, r2, r3, hB, hT⟩ := res_end2 (w := w) (W := W0) (b := w.heap.size) (S := fun _ => False) (Nat.le_refl _) hb0 p0 (fun g hg => hg.elim) (nil_tm (fun _ => False) W0)
  have HE := Lib.hid (And.intro hB (TmV.mono hT (B' := fun g => w.heap.size ≤ g) (fun g hg => hg.elim)))
  obtain ⟨l, hl⟩ : ∃ x, L.length = x := ⟨_, rfl⟩
  rw [hl] at hn x0
  clear hB hT hV hV0 p0 hb0 f hl
  rcases hn with h | h
  · go_enter Tryz.func18, Tryz.ntmps18
    go_wp2_with fail
    refine bodyPost_ret (v := .tuple #[.agg #[.int .i64 0, .int .i64 0, .slice none 0 0, .slice none 0 0], .bool false]) ?_ rfl ⟨_, rfl, HE.out.2, HE.out.1⟩
    simp [results, Tryz.results18, go_sem, r0, r1, r2, r3]
  · have h0 : ¬ n < 0 := by omega
    go_enter Tryz.func18, Tryz.ntmps18
    go_wp2_with fail
    refine bodyPost_ret (v := .tuple #[.agg #[.int .i64 0, .int .i64 0, .slice none 0 0, .slice none 0 0], .bool false]) ?_ rfl ⟨_, rfl, HE.out.2, HE.out.1⟩
    simp [results, Tryz.results18, go_sem, r0, r1, r2, r3]
/-- A term's data, where they lie. -/
theorem data_of {B : Nat → Prop} {w : World} {t : Tm} {y0 y1 y3 : Value} {A : Option Addr} {la ca : Nat} (hy : TmC B w t y0 y1 (.slice A la ca) y3) : ∃ d, Bys w A la d ∧ la ≤ ca ∧ ca ≤ maxLen ∧ (0 < la → ∀ g off sp, A = some ⟨g, off, sp⟩ → B g) := by
  obtain ⟨o, m, d, ks⟩ := t
  unfold TmC at hy
  obtain ⟨_, _, _, _, ⟨A', la', ca', e, h1, h2, h3, h4⟩, _⟩ := hy
  cases e
  exact ⟨d, h3, h1, h2, h4⟩
def TermPostF (w : World) (t : Tm) (is : Bool) (e : Ending) (w' : World) : Prop := ∃ v, e = .returned (.tuple #[v, .bool is]) ∧ TmV (fun g => w.heap.size ≤ g) w' t v ∧ Below w.heap.size w w' ∧ NFv w' v
set_option maxRecDepth 100000 in
set_option maxHeartbeats 4000000 in
theorem term_nf (S : Nat → Prop) (vb mb : Nat) (ob : Option Nat) (L : List Tm) (n : Nat) (t : Tm) (w : World) (hV : Vlt S w vb mb ob L) (hn : L[n]? = some t) (hsz : szT t ≤ 100000) :
    Calls Tryz.prog 18 #[.pointer (some ⟨vb, 0, none⟩), .int .i64 n] w (TermPostF w t true) := by
  have hnl := (List.getElem?_eq_some_iff.1 hn).1
  have hright := hV.right t (List.mem_of_getElem? hn)
  obtain ⟨W0, hW0⟩ : ∃ x, w.alloc (.cells #[.int .i64 0, .int .i64 0, .slice none 0 0, .slice none 0 0] 43) = x := ⟨_, rfl⟩
  have hb0 : Below w.heap.size w W0 := by rw [← hW0]; exact below_new _ _
  have p0 : W0.heap[w.heap.size]? = some (.cells #[.int .i64 0, .int .i64 0, .slice none 0 0, .slice none 0 0] 43) := by rw [← hW0]; exact heap_new_ _ _
  have hz0 : w.heap.size < W0.heap.size := (Array.getElem?_eq_some_iff.1 p0).1
  have hV0 := hV.below hb0
  obtain ⟨A9, c9, x0, x1, x2, x3, _, x4⟩ := hV0.at
  obtain ⟨g9, d0, d1, d2, d3, rfl, e0, e1, e2, e3, hd⟩ := x4 n t hn
  obtain ⟨to, tm, tA, tla, tca, tK, tlk, tck, q0, q1, q2, q3⟩ := hd.shape
  subst q0 q1 q2 q3
  have hnorm := norm_nf t hsz (right_fit _ t (Nat.le_refl _) 0 hright) _ _ W0 ⟨_, _, _, _, rfl, hd⟩
  rw [norm_right hright] at hnorm
  have HN := Lib.hid hnorm
  have HP := Lib.hid (And.intro p0 (And.intro hz0 hb0))
  obtain ⟨l, hl⟩ : ∃ x, L.length = x := ⟨_, rfl⟩
  rw [hl] at hnl x0 x2
  have hlz : (n : Int) < (l : Int) := by omega
  have h0z : ¬ (n : Int) < 0 := by omega
  have h1z : ¬ (l : Int) ≤ (n : Int) := by omega
  clear hV hV0 hn x4 hd hright hnorm hl x1 p0 hz0 hb0
  go_enter Tryz.func18, Tryz.ntmps18
  go_wp2_with (go_at_call 38; refine HN.out.mono ?_; rintro e w1 ⟨v1, rfl, hT1, hb1, hnf⟩; obtain ⟨y0, y1, y2, y3, rfl, hy⟩ := hT1; obtain ⟨o5, m5, A5, la5, ca5, K5, lk5, ck5, rfl, rfl, rfl, rfl⟩ := hy.shape; obtain ⟨dd, hdd, _, _, hdB⟩ := data_of hy; have HNF := Lib.hid (show NFv (set4 w1 w.heap.size 0 (.int .i64 o5) (.int .i64 m5) (.slice A5 la5 ca5) (.slice K5 lk5 ck5)) (.agg #[.int .i64 o5, .int .i64 m5, .slice A5 la5 ca5, .slice K5 lk5 ck5]) from NFv.mk ((hnf _ _ _ _ _ _ rfl).keep hdd fun hl g off sp e _ => set4_other _ _ _ _ _ _ _ _ (by have := hdB hl g off sp e; have := HP.out.2.1; omega))); clear hnf hdd hdB; have p1 := (hb1.block w.heap.size HP.out.2.1).trans HP.out.1; have f0 := Lib.frozen_of_heap p1 0; have f1 := Lib.frozen_of_heap p1 1; have f2 := Lib.frozen_of_heap p1 2; have f3 := Lib.frozen_of_heap p1 3; obtain ⟨s0, s1, s2, s3⟩ : w1.cell? ⟨w.heap.size, 0, none⟩ = some (.int .i64 0) ∧ w1.cell? ⟨w.heap.size, 1, none⟩ = some (.int .i64 0) ∧ w1.cell? ⟨w.heap.size, 2, none⟩ = some (.slice none 0 0) ∧ w1.cell? ⟨w.heap.size, 3, none⟩ = some (.slice none 0 0) := ⟨(Lib.cell_of_heap p1 _).trans rfl, (Lib.cell_of_heap p1 _).trans rfl, (Lib.cell_of_heap p1 _).trans rfl, (Lib.cell_of_heap p1 _).trans rfl⟩; obtain ⟨r0, r1, r2, r3, hB, hT⟩ := res_end2 (w := w) (W := w1) (b := w.heap.size) (S := fun g => W0.heap.size ≤ g) (Nat.le_refl _) (HP.out.2.2.trans (hb1.mono HP.out.2.2.size)) p1 (fun g hg => by have := HP.out.2.1; omega) hy; have HE := Lib.hid (And.intro hB (TmV.mono hT (B' := fun g => w.heap.size ≤ g) (fun g hg => by have := HP.out.2.1; omega))); clear hB hT hy hb1 p1)
  refine bodyPost_ret (v := .tuple #[.agg #[.int .i64 o5, .int .i64 m5, .slice A5 la5 ca5, .slice K5 lk5 ck5], .bool true]) ?_ rfl ⟨_, rfl, HE.out.2, HE.out.1, HNF.out⟩
  simp [results, Tryz.results18, go_sem, r0, r1, r2, r3]
theorem term_yes (S : Nat → Prop) (vb mb : Nat) (ob : Option Nat) (L : List Tm) (n : Nat) (t : Tm) (w : World) (hV : Vlt S w vb mb ob L) (hn : L[n]? = some t) (hsz : szT t ≤ 100000) :
    Calls Tryz.prog 18 #[.pointer (some ⟨vb, 0, none⟩), .int .i64 n] w (TermPost w t true) :=
  (term_nf S vb mb ob L n t w hV hn hsz).mono fun e w' ⟨v, h1, h2, h3, _⟩ => ⟨v, h1, h2, h3⟩
end Go.Proofs.YtlhogjigdmpokaaGreatDoor.vtc
