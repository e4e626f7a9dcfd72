/- terms.Norm: a term whose powers are in order, all its lists new. -/
import Derived.Test.YtlnclgpbobaedaaDoorTmNa
import Derived.RegionTactic
import Derived.Deep.QuietTactic
import Derived.Deep.LoopGhost
import Derived.Deep.RegionHeld3
import Derived.StillTailTactics
import Derived.Deep.Heap
namespace Go.Proofs.YtlnclgpbobaedaaDoor.tmc
open Go.RowKit Go.Proofs.YtlnclgpbobaedaaDoor.tlvc
set_option linter.unusedVariables false
def NormsAt (n : Tm) : Prop := ∀ (B : Nat → Prop) (v : Value) (w : World), TmV B w n v →
    Calls Tryd.prog 36 #[v] w fun e w' => ∃ v', e = .returned v' ∧ TmV (fun g => w.heap.size ≤ g) w' (normF n) v' ∧ Below w.heap.size w w'
/-- slices.SortFunc by Order, whatever list of the call's own. -/
def SortsT : Prop := ∀ (S : Nat → Prop) (ks : List Tm) (n g cap base : Nat) (cs : List Value) (w : World), ks.length = n → (∀ b, S b → b ≠ g) → w.ownsRow base 26 4 (.slice (some ⟨g, 0, none⟩) n cap) n cs → Quads S w ks cs → n ≤ 100000 →
    Calls Tryd.prog 45 #[.slice (some ⟨g, 0, none⟩) n cap, .func (.func 46) #[] #[]] w fun e w' => e = .returned (.tuple #[]) ∧ ∃ cs', Quads S w' (sortI ks) cs' ∧ w'.ownsRow base 26 4 (.slice (some ⟨g, 0, none⟩) n cap) n cs' ∧ w.grownBy w' (some g)
def SortsNone : Prop := ∀ (A : Option Addr) (cap : Nat) (w : World), Calls Tryd.prog 45 #[.slice A 0 cap, .func (.func 46) #[] #[]] w fun e w' => e = .returned (.tuple #[]) ∧ w' = w
theorem own_resize {w w1 : World} {a : Addr} {x v : Value} {e : TypeId} {size n : Nat} {xs : List Value} (h : w.ownsRow (w1.setCell a x).heap.size e size v n xs) : w.ownsRow w1.heap.size e size v n xs := by rwa [set_size] at h
theorem drop_one {ks : List Tm} {i : Nat} (h : i < ks.length) : ∃ k, ks.drop i = k :: ks.drop (i + 1) ∧ k ∈ ks ∧ (ks.map normF).take (i + 1) = (ks.map normF).take i ++ [normF k] :=
  ⟨ks[i], List.drop_eq_getElem_cons h, List.getElem_mem h, by rw [List.take_succ_eq_append_getElem (by rw [List.length_map]; exact h), List.getElem_map]⟩
theorem drew_below {w w' : World} (h : Below w.drew.heap.size w.drew w') : Below w.heap.size w w' := ((Below.refl w.heap.size w).drew).trans h
/-- What the store of a kid wants. -/
theorem store_facts {w : World} {C : Nat → Prop} {o m : Int} {d : List Int} {n la c ck g i : Nat} {A : Option Addr} {ts us : List Tm} {cs1 r : List Value} {c0 c1 c2 c3 : Value} {x : Tm} {wx w6 : World} (h : NInv w C o m d n A la c (some ⟨g, 0, none⟩) ck ts (x :: us) cs1 (c0 :: c1 :: c2 :: c3 :: r) wx)
    (hb : Below wx.heap.size wx w6) (hl : cs1.length = i * 4) : w6.cell? ⟨g, i * 4, none⟩ = some c0 ∧ w6.cell? ⟨g, i * 4 + 1, none⟩ = some c1 ∧ w6.cell? ⟨g, i * 4 + 2, none⟩ = some c2 ∧ w6.cell? ⟨g, i * 4 + 3, none⟩ = some c3 ∧ w6.frozen? ⟨g, i * 4, none⟩ = false ∧ w6.frozen? ⟨g, i * 4 + 1, none⟩ = false ∧ w6.frozen? ⟨g, i * 4 + 2, none⟩ = false ∧ w6.frozen? ⟨g, i * 4 + 3, none⟩ = false := by
  have h6 := h.below hb
  have hll := h6.row.1
  simp only [List.length_append, List.length_cons, hl] at hll
  have ca : ∀ j, j < 4 → w6.cell? ⟨g, i * 4 + j, none⟩ = [c0, c1, c2, c3][j]? := fun j hj => by
    rw [h6.row.cellAt (i * 4 + j) (by omega), List.getElem?_append_right (by omega), hl, Nat.add_sub_cancel_left]
    match j, hj with
    | 0, _ => rfl
    | 1, _ => rfl
    | 2, _ => rfl
    | 3, _ => rfl
  exact ⟨ca 0 (by omega), ca 1 (by omega), ca 2 (by omega), ca 3 (by omega), h6.row.frozenAt _, h6.row.frozenAt _, h6.row.frozenAt _, h6.row.frozenAt _⟩
theorem after_set {w6 : World} {b1 b2 g : Nat} {x y0 y1 y2 y3 : Value} (h : w6.cell? ⟨b1, 3, none⟩ = some x ∧ w6.cell? ⟨b2, 0, none⟩ = some y0 ∧ w6.cell? ⟨b2, 1, none⟩ = some y1 ∧ w6.cell? ⟨b2, 2, none⟩ = some y2 ∧ w6.cell? ⟨b2, 3, none⟩ = some y3) (b : Nat) (z0 z1 z2 z3 : Value) (h1 : b1 ≠ g) (h2 : b2 ≠ g) :
    ((((w6.setCell ⟨g, b, none⟩ z0).setCell ⟨g, b + 1, none⟩ z1).setCell ⟨g, b + 2, none⟩ z2).setCell ⟨g, b + 3, none⟩ z3).cell? ⟨b1, 3, none⟩ = some x ∧ ((((w6.setCell ⟨g, b, none⟩ z0).setCell ⟨g, b + 1, none⟩ z1).setCell ⟨g, b + 2, none⟩ z2).setCell ⟨g, b + 3, none⟩ z3).cell? ⟨b2, 0, none⟩ = some y0 ∧ ((((w6.setCell ⟨g, b, none⟩ z0).setCell ⟨g, b + 1, none⟩ z1).setCell ⟨g, b + 2, none⟩ z2).setCell ⟨g, b + 3, none⟩ z3).cell? ⟨b2, 1, none⟩ = some y1 ∧ ((((w6.setCell ⟨g, b, none⟩ z0).setCell ⟨g, b + 1, none⟩ z1).setCell ⟨g, b + 2, none⟩ z2).setCell ⟨g, b + 3, none⟩ z3).cell? ⟨b2, 2, none⟩ = some y2 ∧ ((((w6.setCell ⟨g, b, none⟩ z0).setCell ⟨g, b + 1, none⟩ z1).setCell ⟨g, b + 2, none⟩ z2).setCell ⟨g, b + 3, none⟩ z3).cell? ⟨b2, 3, none⟩ = some y3 := by
  have k1 := fun j => cell_same (p := ⟨b1, j, none⟩) (set4_other w6 g b b1 z0 z1 z2 z3 h1)
  have k2 := fun j => cell_same (p := ⟨b2, j, none⟩) (set4_other w6 g b b2 z0 z1 z2 z3 h2)
  exact ⟨(k1 3).trans h.1, (k2 0).trans h.2.1, (k2 1).trans h.2.2.1, (k2 2).trans h.2.2.2.1, (k2 3).trans h.2.2.2.2⟩
theorem len_szTs : ∀ ks : List Tm, ks.length ≤ szTs ks
  | [] => by simp
  | k :: ks => by
    have := len_szTs ks
    obtain ⟨_, _, _, l⟩ := k
    unfold szTs szT
    simp only [List.length_cons]
    omega
/-- What the end wants. -/
theorem fin_facts {w : World} {C : Nat → Prop} {o m : Int} {d : List Int} {n la c ck : Nat} {A K : Option Addr} {ts us : List Tm} {cs1 cs2 : List Value} {wx : World} (h : NInv w C o m d n A la c K ck ts us cs1 cs2 wx) :
    wx.cell? ⟨w.heap.size, 0, none⟩ = some (.int .i64 o) ∧ wx.cell? ⟨w.heap.size, 1, none⟩ = some (.int .i64 m) ∧ wx.cell? ⟨w.heap.size, 2, none⟩ = some (.slice A la c) ∧ wx.cell? ⟨w.heap.size, 3, none⟩ = some (.slice K n ck) ∧
    wx.cell? ⟨w.heap.size + 1, 0, none⟩ = some (.int .i64 0) ∧ wx.cell? ⟨w.heap.size + 1, 1, none⟩ = some (.int .i64 0) ∧ wx.cell? ⟨w.heap.size + 1, 2, none⟩ = some (.slice none 0 0) ∧ wx.cell? ⟨w.heap.size + 1, 3, none⟩ = some (.slice none 0 0) ∧
    wx.frozen? ⟨w.heap.size + 1, 0, none⟩ = false ∧ wx.frozen? ⟨w.heap.size + 1, 1, none⟩ = false ∧ wx.frozen? ⟨w.heap.size + 1, 2, none⟩ = false ∧ wx.frozen? ⟨w.heap.size + 1, 3, none⟩ = false ∧
    (∀ y0 y1 y2 y3 : Value, ((((wx.setCell ⟨w.heap.size + 1, 0, none⟩ y0).setCell ⟨w.heap.size + 1, 1, none⟩ y1).setCell ⟨w.heap.size + 1, 2, none⟩ y2).setCell ⟨w.heap.size + 1, 3, none⟩ y3).cell? ⟨w.heap.size + 1, 0, none⟩ = some y0) ∧ (∀ y0 y1 y2 y3 : Value, ((((wx.setCell ⟨w.heap.size + 1, 0, none⟩ y0).setCell ⟨w.heap.size + 1, 1, none⟩ y1).setCell ⟨w.heap.size + 1, 2, none⟩ y2).setCell ⟨w.heap.size + 1, 3, none⟩ y3).cell? ⟨w.heap.size + 1, 1, none⟩ = some y1) ∧ (∀ y0 y1 y2 y3 : Value, ((((wx.setCell ⟨w.heap.size + 1, 0, none⟩ y0).setCell ⟨w.heap.size + 1, 1, none⟩ y1).setCell ⟨w.heap.size + 1, 2, none⟩ y2).setCell ⟨w.heap.size + 1, 3, none⟩ y3).cell? ⟨w.heap.size + 1, 2, none⟩ = some y2) ∧ (∀ y0 y1 y2 y3 : Value, ((((wx.setCell ⟨w.heap.size + 1, 0, none⟩ y0).setCell ⟨w.heap.size + 1, 1, none⟩ y1).setCell ⟨w.heap.size + 1, 2, none⟩ y2).setCell ⟨w.heap.size + 1, 3, none⟩ y3).cell? ⟨w.heap.size + 1, 3, none⟩ = some y3) := by
  obtain ⟨a, b, c', d'⟩ := h.cells
  refine ⟨a, b, c', d', by rw [Lib.cell_of_heap h.res]; rfl, by rw [Lib.cell_of_heap h.res]; rfl, by rw [Lib.cell_of_heap h.res]; rfl, by rw [Lib.cell_of_heap h.res]; rfl, Lib.frozen_of_heap h.res _, Lib.frozen_of_heap h.res _, Lib.frozen_of_heap h.res _, Lib.frozen_of_heap h.res _, ?_, ?_, ?_, ?_⟩ <;>
  (intro y0 y1 y2 y3; exact (Lib.cell_of_heap (w := set4 wx (w.heap.size + 1) 0 y0 y1 y2 y3) (set4_box h.res y0 y1 y2 y3) _).trans rfl)
/-- The term in work: so many of its kids are laid. -/
def NR (w : World) (B : Nat → Prop) (o m : Int) (d : List Int) (n : Nat) (A : Option Addr) (la c : Nat) (K : Option Addr) (ck : Nat) (ks : List Tm) (i : Nat) (wx : World) : Prop :=
  ∃ cs1 cs2, NInv w B o m d n A la c K ck ((ks.map normF).take i) (ks.drop i) cs1 cs2 wx
set_option maxRecDepth 100000 in
set_option maxHeartbeats 8000000 in
theorem norm_step (hsort : SortsT) (hnone : SortsNone) (o m : Int) (d : List Int) (ks : List Tm) (hk : ∀ k ∈ ks, NormsAt k) (hd : d.length ≤ 140737488351232) (hn : ks.length ≤ 100000) : NormsAt (.mk o m d ks) := by
  intro B v w hv
  obtain ⟨c0, c1, c2, c3, rfl, hc⟩ := hv
  unfold TmC at hc
  obtain ⟨rfl, ho, rfl, hm, ⟨A, la, ca, rfl, hA1, hA2, hA3, _⟩, K, ck, rfl, hK1, hK2, hK3⟩ := hc
  rw [normF_mk]
  obtain ⟨RL, hRL⟩ : ∃ x, (if o = 7 then sortI (ks.map normF) else ks.map normF) = x := ⟨_, rfl⟩
  rw [hRL]
  have HRL := Lib.hid hRL
  clear hRL
  obtain ⟨n, hlen⟩ : ∃ x, ks.length = x := ⟨_, rfl⟩
  rw [hlen] at hK1 hK3 hn ⊢
  obtain ⟨cs, hq, hcl, hco, hcc⟩ : ∃ cs, Quads B w ks cs ∧ cs.length = n * 4 ∧ (∀ u ∈ cs, u.oneCell' = true) ∧ (0 < n → ∃ g off, K = some ⟨g, off, none⟩ ∧ g < w.heap.size ∧ ∀ j u, cs[j]? = some u → w.cell? ⟨g, off + j, none⟩ = some u) := by
    rcases Nat.eq_zero_or_pos n with h0 | h0
    · have hk0 : ks = [] := List.eq_nil_of_length_eq_zero (by omega)
      subst hk0
      exact ⟨[], rfl, by simp [h0], fun u hu => by simp at hu, fun h => by omega⟩
    · obtain ⟨g, off, e, hg, _, hks⟩ := hK3 h0
      obtain ⟨cs, hq, hc⟩ := Quads.of hks
      exact ⟨cs, hq, by rw [hq.len, hlen], hq.one, fun _ => ⟨g, off, e, hg, hc⟩⟩
  have hla : la = d.length := hA3.1.symm
  have hl9 : la ≤ 140737488351232 := by omega
  have hclone := fun W hW => bclone_any A la ca d W hW hA1 hA2 hl9
  have hsclone := fun W hW => sclone_any cs K n ck W hcl hco hW hK1 hK2 hn
  have HCL := Lib.hid hclone
  have HSC := Lib.hid hsclone
  have HIH := Lib.hid hk
  have hK9 : ck ≤ 9223372036854775807 := by unfold maxLen at hK2; omega
  have H3 := Lib.hid hA3
  have HCC := Lib.hid hcc
  have HQ := Lib.hid hq
  have HLEN := Lib.hid hlen
  have HLA := Lib.hid hla
  clear hclone hsclone hk hA3 hK3 hcc hq hcl hco hlen hla
  go_enter Tryd.func36, Tryd.ntmps36
  go_wp2_with fail
  obtain ⟨W0, hW0⟩ : ∃ x, (w.alloc (.cells #[.int .i64 o, .int .i64 m, .slice A la ca, .slice K n ck] 26)).alloc (.cells #[.int .i64 0, .int .i64 0, .slice none 0 0, .slice none 0 0] 26) = x := ⟨_, rfl⟩
  have hz0 : W0.heap.size = w.heap.size + 2 := by rw [← hW0]; simp
  have p0 : W0.heap[w.heap.size]? = some (.cells #[.int .i64 o, .int .i64 m, .slice A la ca, .slice K n ck] 26) := by rw [← hW0, heap_old_ _ _ (by simp)]; exact heap_new_ _ _
  have p1 : W0.heap[w.heap.size + 1]? = some (.cells #[.int .i64 0, .int .i64 0, .slice none 0 0, .slice none 0 0] 26) := by
    rw [← hW0]
    have := heap_new_ (w.alloc (.cells #[.int .i64 o, .int .i64 m, .slice A la ca, .slice K n ck] 26)) (.cells #[.int .i64 0, .int .i64 0, .slice none 0 0, .slice none 0 0] 26)
    rwa [show (w.alloc (.cells #[.int .i64 o, .int .i64 m, .slice A la ca, .slice K n ck] 26)).heap.size = w.heap.size + 1 by simp] at this
  have hb0 : Below w.heap.size w W0 := by rw [← hW0]; exact (below_new _ _).alloc (by simp) _
  rw [hW0]
  have h0 := HCL.out W0 (H3.out.below hb0)
  clear hW0
  have g0 : W0.cell? ⟨w.heap.size, 2, none⟩ = some (.slice A la ca) := by rw [Lib.cell_of_heap p0]; rfl
  go_wp2_with fail
  refine h0.mono ?_
  rintro e w1 ⟨A', c', rfl, hby, ⟨hlc, hcm⟩, hb1, hfar⟩
  have q0 := (hb1.block w.heap.size (by omega)).trans p0
  have f2 : w1.frozen? ⟨w.heap.size, 2, none⟩ = false := Lib.frozen_of_heap q0 _
  have f4 : w1.cell? ⟨w.heap.size, 2, none⟩ = some (.slice A la ca) := by rw [Lib.cell_of_heap q0]; rfl
  have f3 : w1.cell? ⟨w.heap.size, 3, none⟩ = some (.slice K n ck) := by rw [Lib.cell_of_heap q0]; rfl
  have hbs : Below w.heap.size w (w1.setCell ⟨w.heap.size, 2, none⟩ (.slice A' la c')) := (hb0.trans (hb1.mono hb0.size)).setCell (Nat.le_refl _) _
  have h1 := HSC.out (w1.setCell ⟨w.heap.size, 2, none⟩ (.slice A' la c')) (fun hp => by
    obtain ⟨g, off, e, hg, hc⟩ := HCC.out hp
    exact ⟨g, off, e, Nat.lt_of_lt_of_le hg hbs.size, fun j u hu => (hbs.cell (p := ⟨g, off + j, none⟩) hg).trans (hc j u hu)⟩)
  have H1 := Lib.hid h1
  have HB := Lib.hid hby
  have HF := Lib.hid hfar
  have HBS := Lib.hid hbs
  have HB1 := Lib.hid hb1
  have Q0 := Lib.hid q0
  clear h1 hby hfar hbs hb1 q0 g0
  go_wp2_with fail
  refine H1.out.mono ?_
  rintro e w3 ⟨K', ck', rfl, hown, hb3⟩
  rw [set_size] at hb3
  have hown := own_resize hown
  have r0 := (hb3.block w.heap.size (by have := HB1.out.size; omega)).trans (set_heap w1 w.heap.size 2 (.slice A' la c') _ _ _ Q0.out)
  have u3 : w3.frozen? ⟨w.heap.size, 3, none⟩ = false := Lib.frozen_of_heap r0 _
  have v3 : w3.cell? ⟨w.heap.size, 3, none⟩ = some (.slice K n ck) := by rw [Lib.cell_of_heap r0]; rfl
  have hI := NInv.start hb0 hz0 p0 p1 HB1.out HB.out HF.out hb3 hown HQ.out
  have hcl := hI.cells.2.2.2
  obtain ⟨K4, ck4, eK4, hnc4, hck4, hrow4⟩ := own4_shape hown
  cases eK4
  have hK49 : ck' ≤ 9223372036854775807 := by unfold maxLen at hck4; omega
  have HI := Lib.hid hI
  have HR4 := Lib.hid hrow4
  clear hI hown hb3 r0 f2 f3 f4 p0 p1 hrow4 HB HF HB1 Q0 HBS HCL HSC H1 HCC h0 H3 HQ
  go_wp2_with fail
  obtain ⟨W4, hW4⟩ : ∃ x, w3.setCell ⟨w.heap.size, 3, none⟩ (.slice K' n ck') = x := ⟨_, rfl⟩
  rw [hW4] at HI ⊢
  clear hW4 hcl u3 v3
  go_loopg [16] (n + 1) (fun gk s16 wx => ∃ (i : Nat), s16 = .int .i64 i ∧ i ≤ n ∧ n - i < gk ∧ NR w B o m d n A' la c' K' ck' ks i wx)
  case atStart => exact ⟨0, rfl, by omega, by omega, [], cs, HI.out⟩
  case round =>
    obtain ⟨i, rfl, hi, hgk, cs1, cs2, hN⟩ := hrel
    have hln := HLEN.out
    by_cases hlt : i < n
    · have hltz : (i : Int) < (n : Int) := by omega
      obtain ⟨gk', rfl⟩ : ∃ g', gk = g' + 1 := ⟨gk - 1, by omega⟩
      obtain ⟨g, rfl, hg1, hg2⟩ := HR4.out (by omega)
      obtain ⟨k, hdk, hmem, htk⟩ := drop_one (ks := ks) (i := i) (by omega)
      rw [hdk] at hN
      have HTK := Lib.hid htk
      have HMEM := Lib.hid hmem
      have hq2 := hN.q2
      obtain ⟨c0, c1, c2, c3, r, rfl, hkd, hr⟩ := hq2
      obtain ⟨o1, m1, A1, la1, ca1, K1, lk1, ck1, rfl, rfl, rfl, rfl⟩ := hkd.shape
      have hl1 : cs1.length = i * 4 := by rw [hN.q1.len, List.length_take, List.length_map]; omega
      have hll := hN.row.1
      simp only [List.length_append, List.length_cons, hl1] at hll
      have ca : ∀ j, j < 4 → wr.cell? ⟨g, i * 4 + j, none⟩ = [Value.int .i64 o1, .int .i64 m1, .slice A1 la1 ca1, .slice K1 lk1 ck1][j]? := fun j hj => by
        rw [hN.row.cellAt (i * 4 + j) (by omega), List.getElem?_append_right (by omega), hl1, Nat.add_sub_cancel_left]
        match j, hj with
        | 0, _ => rfl
        | 1, _ => rfl
        | 2, _ => rfl
        | 3, _ => rfl
      have y0 : wr.cell? ⟨g, i * 4, none⟩ = some (.int .i64 o1) := ca 0 (by omega)
      have y1 : wr.cell? ⟨g, i * 4 + 1, none⟩ = some (.int .i64 m1) := ca 1 (by omega)
      have y2 : wr.cell? ⟨g, i * 4 + 2, none⟩ = some (.slice A1 la1 ca1) := ca 2 (by omega)
      have y3 : wr.cell? ⟨g, i * 4 + 3, none⟩ = some (.slice K1 lk1 ck1) := ca 3 (by omega)
      have HN := Lib.hid hN
      have HKD := Lib.hid hkd
      have HL1 := Lib.hid hl1
      clear hN hkd hr hll ca hl1 hln htk hdk hmem
      go_wp2_with fail
      obtain ⟨W1, hW1⟩ : ∃ x, wr.alloc (.cells #[.int .i64 o1, .int .i64 m1, .slice A1 la1 ca1, .slice K1 lk1 ck1] 26) = x := ⟨_, rfl⟩
      have hbn : Below wr.heap.size wr W1 := by rw [← hW1]; exact below_new _ _
      have hx1 : W1.heap[wr.heap.size]? = some (.cells #[.int .i64 o1, .int .i64 m1, .slice A1 la1 ca1, .slice K1 lk1 ck1] 26) := by rw [← hW1]; exact heap_new_ _ _
      have hzz : W1.heap.size = wr.heap.size + 1 := by rw [← hW1]; simp
      rw [hW1]
      have hbw : Below w.heap.size w W1.drew := (HN.out.bel.trans (hbn.mono HN.out.bel.size)).drew
      have hih := HIH.out k HMEM.out B (.agg #[.int .i64 o1, .int .i64 m1, .slice A1 la1 ca1, .slice K1 lk1 ck1]) W1.drew ⟨_, _, _, _, rfl, TmC.below hbw _ _ _ _ _ HKD.out⟩
      have hall : ∀ W, Below W1.heap.size W1 W → (W.cell? ⟨w.heap.size, 3, none⟩ = some (.slice (some ⟨g, 0, none⟩) n ck') ∧ W.cell? ⟨wr.heap.size, 0, none⟩ = some (.int .i64 o1) ∧ W.cell? ⟨wr.heap.size, 1, none⟩ = some (.int .i64 m1) ∧ W.cell? ⟨wr.heap.size, 2, none⟩ = some (.slice A1 la1 ca1) ∧ W.cell? ⟨wr.heap.size, 3, none⟩ = some (.slice K1 lk1 ck1)) := fun W hW => by
        have hI := HN.out.below (hbn.trans (hW.mono hbn.size))
        have hb := (hW.block wr.heap.size (by omega)).trans hx1
        exact ⟨hI.cells.2.2.2, by rw [Lib.cell_of_heap hb]; rfl, by rw [Lib.cell_of_heap hb]; rfl, by rw [Lib.cell_of_heap hb]; rfl, by rw [Lib.cell_of_heap hb]; rfl⟩
      have hS0 := hall W1.drew (Below.refl _ _).drew
      have HALL := Lib.hid hall
      have hol := HN.out.own_lt (g := g) rfl
      have hne1 : w.heap.size ≠ g := by omega
      have hne2 : wr.heap.size ≠ g := by omega
      clear hol
      have HIH2 := Lib.hid hih
      have HBW := Lib.hid hbw
      have HBN := Lib.hid hbn
      clear hih hbw hW1 hx1 hall y0 y1 y2 y3 hbn
      go_region_held3 (fun W => W.cell? ⟨w.heap.size, 3, none⟩ = some (.slice (some ⟨g, 0, none⟩) n ck') ∧ W.cell? ⟨wr.heap.size, 0, none⟩ = some (.int .i64 o1) ∧ W.cell? ⟨wr.heap.size, 1, none⟩ = some (.int .i64 m1) ∧ W.cell? ⟨wr.heap.size, 2, none⟩ = some (.slice A1 la1 ca1) ∧ W.cell? ⟨wr.heap.size, 3, none⟩ = some (.slice K1 lk1 ck1)) (first | exact hS0 | exact hS6 | exact hS7) ((first | (go_at_call 36; refine HIH2.out.mono ?_; rintro e w6 ⟨v', rfl, ⟨n0, n1, n2, n3, rfl, hk6⟩, hb6⟩; obtain ⟨o6, m6, A6, la6, ca6, K6, lk6, ck6, rfl, rfl, rfl, rfl⟩ := hk6.shape; have hS6 := HALL.out w6 (drew_below hb6); have hT := store_facts HN.out (HBN.out.trans ((drew_below hb6).mono HBN.out.size)) HL1.out; obtain ⟨t0, t1, t2, t3, t4, t5, t6, t7⟩ := hT; have hS7 := after_set hS6 (i * 4) (.int .i64 o6) (.int .i64 m6) (.slice A6 la6 ca6) (.slice K6 lk6 ck6) hne1 hne2)))
      have hst := HN.out.step (HBN.out.trans ((drew_below hb6).mono HBN.out.size)) (TmC.mono (fun b hb => Nat.le_trans (by show wr.heap.size ≤ W1.heap.size; omega) (Nat.le_trans (Nat.le_of_eq rfl) hb)) _ _ _ _ _ hk6)
      rw [HL1.out, ← HTK.out] at hst
      have HST := Lib.hid hst
      clear hst hS6 hS7 hS0 hk6 hb6 HN t0 t1 t2 t3 t4 t5 t6 t7 HKD HL1 HTK HMEM HALL HIH2 HBW HBN
      go_wp2
      go_roundg gk'
      case measure => omega
      case rel => exact ⟨i + 1, by go_num, by omega, by omega, _, _, HST.out⟩
    · have hltz : ¬ (i : Int) < (n : Int) := by omega
      have hge : n ≤ i := by omega
      rw [List.drop_eq_nil_of_le (by omega), List.take_of_length_le (by rw [List.length_map]; omega)] at hN
      have e2 : cs2 = [] := hN.q2
      subst e2
      by_cases h7 : o = 7
      · subst h7
        rcases Nat.eq_zero_or_pos n with h0 | h0
        · subst h0
          have hk0 : ks = [] := List.eq_nil_of_length_eq_zero (by omega)
          subst hk0
          have hR : ([] : List Tm) = RL := by rw [← HRL.out, if_pos rfl]; rfl
          have hno := hnone K' ck' wr
          have HNO := Lib.hid hno
          obtain ⟨f0, f1, f2, f3, s0, s1, s2, s3, t0, t1, t2, t3, r0, r1, r2, r3⟩ := fin_facts hN
          have hend := hN.fin (us := []) rfl ho hm hlc hcm
          rw [show List.map normF [] = RL from hR] at hend
          have HE := Lib.hid hend
          clear hno hN hend hln HRL hR
          go_wp2_with fail
          refine HNO.out.mono ?_
          rintro e w8 ⟨rfl, rfl⟩
          go_wp2_with fail
          refine bodyPost_ret (v := .agg #[.int .i64 7, .int .i64 m, .slice A' la c', .slice K' 0 ck']) ?_ rfl ⟨_, rfl, HE.out.2, HE.out.1⟩
          simp [results, Tryd.results36, go_sem, r0, r1, r2, r3]
        · obtain ⟨g, rfl, hg1, hg2⟩ := HR4.out (by omega)
          have hrow := hN.row
          rw [List.append_nil] at hrow
          have hs := hsort (Fr w (some ⟨g, 0, none⟩)) (ks.map normF) n g ck' (w.heap.size + 2) cs1 wr (by rw [List.length_map]; omega) (fun b hb e => hb.2 (by rw [e]; rfl)) hrow hN.q1 hn
          have HS := Lib.hid hs
          have hR : sortI (ks.map normF) = RL := by rw [← HRL.out, if_pos rfl]
          have hRlen : RL.length = n := by rw [← hR, sortI_len, List.length_map]; omega
          obtain ⟨f0, f1, f2, f3, _⟩ := fin_facts hN
          have HN := Lib.hid hN
          have HR := Lib.hid hR
          have HRN := Lib.hid hRlen
          clear hs hN hrow hln HRL hR hRlen f1 f2
          go_wp2_with fail
          refine HS.out.mono ?_
          rintro e w8 ⟨rfl, cs', hq', hown', hgr⟩
          have hN8 := HN.out.sorted (us := []) hq' hown' hgr
          rw [HR.out] at hN8
          obtain ⟨f0', f1, f2, f3', s0, s1, s2, s3, t0, t1, t2, t3, r0, r1, r2, r3⟩ := fin_facts hN8
          have hend := hN8.fin (us := []) HRN.out ho hm hlc hcm
          have HE := Lib.hid hend
          clear hN8 hend HS HN HR HRN hq' hown' hgr
          go_wp2_with fail
          refine bodyPost_ret (v := .agg #[.int .i64 7, .int .i64 m, .slice A' la c', .slice (some ⟨g, 0, none⟩) n ck']) ?_ rfl ⟨_, rfl, HE.out.2, HE.out.1⟩
          simp [results, Tryd.results36, go_sem, r0, r1, r2, r3]
      · have hb7 : (o == 7) = false := by simpa using h7
        have hR : ks.map normF = RL := by rw [← HRL.out, if_neg h7]
        rw [hR] at hN
        obtain ⟨f0, f1, f2, f3, s0, s1, s2, s3, t0, t1, t2, t3, r0, r1, r2, r3⟩ := fin_facts hN
        have hend := hN.fin (us := []) (by rw [← hR, List.length_map]; omega) ho hm hlc hcm
        have HE := Lib.hid hend
        clear hN hend hln HRL hR
        go_wp2_with fail
        refine bodyPost_ret (v := .agg #[.int .i64 o, .int .i64 m, .slice A' la c', .slice K' n ck']) ?_ rfl ⟨_, rfl, HE.out.2, HE.out.1⟩
        simp [results, Tryd.results36, go_sem, r0, r1, r2, r3]
theorem norms_all (hsort : SortsT) (hnone : SortsNone) : ∀ (N : Nat) (n : Tm), szT n ≤ N → N ≤ 100000 → fitD n → NormsAt n
  | 0, .mk _ _ _ ks, h, _, _ => by unfold szT at h; omega
  | N + 1, .mk o m d ks, h, hN, hf => by
    unfold szT at h
    unfold fitD at hf
    refine norm_step hsort hnone o m d ks (fun k hk => norms_all hsort hnone N k (by have := szTs_mem hk; omega) (by omega) (fitDs_all.1 hf.2 k hk)) hf.1 ?_
    have := len_szTs ks
    omega
end Go.Proofs.YtlnclgpbobaedaaDoor.tmc
