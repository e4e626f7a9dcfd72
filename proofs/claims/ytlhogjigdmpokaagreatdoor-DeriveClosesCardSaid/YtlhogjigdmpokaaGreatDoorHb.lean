/- The document's without. -/
import Derived.Test.YtlhogjigdmpokaaGreatDoorHa
namespace Go.Proofs.YtlhogjigdmpokaaGreatDoor.vtc
open Go.RowKit Go.Proofs.YtlhogjigdmpokaaGreatDoor.tlvc Go.Proofs.YtlhogjigdmpokaaGreatDoor.tmc Go.Proofs.YtlhogjigdmpokaaGreatDoor.rfc
set_option linter.unusedVariables false
/-- Terms that lie one behind the other. -/
structure HasT (A : Option Addr) (n : Nat) (l : List Tm) (cs : List Value) (w : World) : Prop where
  len : l.length = n
  qs : Quads (fun _ => True) w l cs
  src : 0 < n → ∃ g off, A = some ⟨g, off, none⟩ ∧ g < w.heap.size ∧ ∀ j u, cs[j]? = some u → w.cell? ⟨g, off + j, none⟩ = some u
section
variable {A : Option Addr} {n : Nat} {l : List Tm} {cs : List Value} {w w' : World}
theorem HasT.clen (h : HasT A n l cs w) : cs.length = n * 4 := by rw [h.qs.len, h.len]
theorem HasT.below (h : HasT A n l cs w) (hb : Below w.heap.size w w') : HasT A n l cs w' := ⟨h.len, Quads.stays (stays_below hb _) h.qs, fun hn => by
  obtain ⟨g, off, e, hg, hc⟩ := h.src hn
  exact ⟨g, off, e, Nat.lt_of_lt_of_le hg hb.size, fun j u hu => (hb.cell (p := ⟨g, off + j, none⟩) hg).trans (hc j u hu)⟩⟩
theorem HasT.at (h : HasT A n l cs w) {i : Nat} (hi : i < n) : ∃ g off d0 d1 d2 d3, A = some ⟨g, off, none⟩ ∧ w.cell? ⟨g, off + i * 4, none⟩ = some d0 ∧ w.cell? ⟨g, off + i * 4 + 1, none⟩ = some d1 ∧ w.cell? ⟨g, off + i * 4 + 2, none⟩ = some d2 ∧ w.cell? ⟨g, off + i * 4 + 3, none⟩ = some d3 ∧ TmC (fun _ => True) w (l.getD i default) d0 d1 d2 d3 := by
  obtain ⟨g, off, e, hg, hc⟩ := h.src (by omega)
  have hk := Quads.kids (g := g) (off := off) h.qs hc
  obtain ⟨d0, d1, d2, d3, k0, k1, k2, k3, hd⟩ := hk.at i (by rw [h.len]; exact hi)
  refine ⟨g, off, d0, d1, d2, d3, e, k0, k1, k2, k3, ?_⟩
  rwa [List.getD_eq_getElem?_getD, List.getElem?_eq_getElem (by rw [h.len]; exact hi), Option.getD_some]
theorem HasT.own {c base : Nat} (h : w.ownsRow base 43 4 (.slice A n c) n cs) (hq : Quads (fun _ => True) w l cs) (hl : l.length = n) : n ≤ c ∧ c ≤ maxLen ∧ HasT A n l cs w := by
  obtain ⟨A', c', e, h1, h2, h3⟩ := own4_shape h
  cases e
  refine ⟨h1, h2, hl, hq, fun hn => ?_⟩
  obtain ⟨g, rfl, hg1, hg2⟩ := h3 hn
  refine ⟨g, 0, rfl, hg2, fun j u hu => ?_⟩
  have hj := (List.getElem?_eq_some_iff.1 hu).1
  rw [Nat.zero_add, h.cellAt j (by rw [← h.1]; exact hj)]
  exact hu
theorem tm_kids {B : Nat → Prop} {o m : Int} {d : List Int} {c0 c1 c2 : Value} {K : Option Addr} {lk ck : Nat} (h : TmC B w (.mk o m d l) c0 c1 c2 (.slice K lk ck)) : lk ≤ ck ∧ ck ≤ maxLen ∧ ∃ cs, HasT K lk l cs w := by
  unfold TmC at h
  obtain ⟨_, _, _, _, _, K', ck', e, h1, h2, h3⟩ := h
  cases e
  refine ⟨h1, h2, ?_⟩
  rcases Nat.eq_zero_or_pos l.length with h0 | h0
  · have hk0 : l = [] := List.eq_nil_of_length_eq_zero h0
    subst hk0
    exact ⟨[], rfl, rfl, fun h => by simp at h⟩
  · obtain ⟨g, off, rfl, hg, hB, hks⟩ := h3 h0
    obtain ⟨cs, hq, hc⟩ := Quads.of hks
    exact ⟨cs, rfl, Quads.mono (fun _ _ => trivial) hq, fun _ => ⟨g, off, rfl, hg, hc⟩⟩
end
/-- A list of the call's own, its cells with it. -/
structure OutT (base : Nat) (A : Option Addr) (n c : Nat) (l : List Tm) (w : World) : Prop where
  len : l.length = n
  row : ∃ cs, w.ownsRow base 43 4 (.slice A n c) n cs ∧ Quads (fun _ => True) w l cs
theorem OutT.has {base : Nat} {A : Option Addr} {n c : Nat} {l : List Tm} {w : World} (h : OutT base A n c l w) : n ≤ c ∧ c ≤ maxLen ∧ ∃ cs, HasT A n l cs w := by
  obtain ⟨cs, h1, h2⟩ := h.row
  obtain ⟨k1, k2, k3⟩ := HasT.own h1 h2 h.len
  exact ⟨k1, k2, cs, k3⟩
theorem OutT.below {base : Nat} {A : Option Addr} {n c : Nat} {l : List Tm} {w w' : World} (h : OutT base A n c l w) (hb : Below w.heap.size w w') : OutT base A n c l w' := by
  obtain ⟨cs, h1, h2⟩ := h.row
  exact ⟨h.len, cs, own_below h1 hb, Quads.stays (stays_below hb _) h2⟩
/-- append([]api.Term{}, l...). -/
theorem run_copy {A : Option Addr} {n : Nat} {l : List Tm} {cs : List Value} (w : World) (c : Nat) (h : HasT A n l cs w) (hn : n ≤ 100000) :
    ∃ A' c' w', (Builtin.append_ #[22, 22] 22 #[.slice (some ⟨w.heap.size, 0, none⟩) 0 0, .slice A n c]).run Tryz.prog (w.alloc (.cells #[] 43)) = .ok (.slice A' n c') w' ∧ w'.ownsRow w.heap.size 43 4 (.slice A' n c') n cs ∧ Below w.heap.size w w' := by
  have hb := below_new w (.cells #[] 43)
  have h1 := h.below hb
  obtain ⟨A3, c3, W3, hrun3, hown3, hb3⟩ := app_src (w.alloc (.cells #[] 43)) w.heap.size (.slice (some ⟨w.heap.size, 0, none⟩) 0 0) 0 [] (World.ownsRow_lit (base := w.heap.size) (e := 43) (size := 4) w #[] 0 (Nat.le_refl _) (Nat.zero_le _) rfl) A n c cs h1.clen h1.qs.one (fun hpos => by
    obtain ⟨g, off, e, _, hc⟩ := h1.src hpos
    exact ⟨g, off, e, hc⟩) (by omega) (by simp)
  rw [Nat.zero_add, List.nil_append] at hown3
  rw [Nat.zero_add] at hrun3
  exact ⟨A3, c3, W3, hrun3, hown3, hb.trans hb3⟩
theorem run_out {A : Option Addr} {n : Nat} {l : List Tm} {cs : List Value} (w : World) (c : Nat) (h : HasT A n l cs w) (hn : n ≤ 100000) :
    ∃ A' c' w', (Builtin.append_ #[22, 22] 22 #[.slice (some ⟨w.heap.size, 0, none⟩) 0 0, .slice A n c]).run Tryz.prog (w.alloc (.cells #[] 43)) = .ok (.slice A' n c') w' ∧ OutT w.heap.size A' n c' l w' ∧ Below w.heap.size w w' := by
  obtain ⟨A', c', w', hr, ho, hb⟩ := run_copy w c h hn
  exact ⟨A', c', w', hr, ⟨h.len, cs, ho, Quads.stays (stays_below hb _) h.qs⟩, hb⟩
/-- append(append([]api.Term{}, l[:a]...), l[a+1:]...). -/
theorem run_cut {g off : Nat} {n : Nat} {l : List Tm} {cs : List Value} (w : World) (c a : Nat) (h : HasT (some ⟨g, off, none⟩) n l cs w) (hn : n ≤ 100000) (ha : a < n) :
    ∃ A' c' w', (Builtin.append_ #[22, 22] 22 #[.slice (some ⟨w.heap.size, 0, none⟩) 0 0, .slice (some ⟨g, off, none⟩) a c]).run Tryz.prog (w.alloc (.cells #[] 43)) = .ok (.slice A' a c') w' ∧
      ∀ (S : Option Addr) (k : Nat), (a + 1 < n → S = some ⟨g, off + (a + 1) * 4, none⟩) → ∃ A2 c2 w2, (Builtin.append_ #[22, 22] 22 #[.slice A' a c', .slice S (n - (a + 1)) k]).run Tryz.prog w' = .ok (.slice A2 (n - 1) c2) w2 ∧ OutT w.heap.size A2 (n - 1) c2 (l.eraseIdx a) w2 ∧ Below w.heap.size w w2 := by
  obtain ⟨g', off', e, hg, hc⟩ := h.src (by omega)
  cases e
  have hcl := h.clen
  have htk := h.qs.take_ a
  have htk2 := h.qs.take_ (a + 1)
  have hp : HasT (some ⟨g, off, none⟩) a (l.take a) (cs.take (a * 4)) w := ⟨by rw [List.length_take, h.len]; omega, htk.1, fun _ => ⟨g, off, rfl, hg, fun j u hu => hc j u (by
    have hj := (List.getElem?_eq_some_iff.1 hu).1
    rw [List.length_take] at hj
    rwa [List.getElem?_take, if_pos (by omega)] at hu)⟩⟩
  obtain ⟨A', c', w', hr, ho, hb⟩ := run_copy w c hp (by omega)
  have h2 := h.below hb
  refine ⟨A', c', w', hr, fun S k hS => ?_⟩
  obtain ⟨A2, c2, w2, hr2, ho2, hb2⟩ := app_src w' w.heap.size (.slice A' a c') a _ ho S (n - (a + 1)) k (cs.drop ((a + 1) * 4)) (by rw [List.length_drop]; omega) (fun u hu => h.qs.one u (List.mem_of_mem_drop hu)) (fun hp => ⟨_, _, hS (by omega), fun j u hu => by
    obtain ⟨g', off', e', _, hc2⟩ := h2.src (by omega)
    cases e'
    rw [List.getElem?_drop] at hu
    rw [Nat.add_assoc]
    exact hc2 _ u hu⟩) (by omega) hb.size
  rw [show a + (n - (a + 1)) = n - 1 by omega] at hr2 ho2
  have hb12 := hb.trans hb2
  refine ⟨A2, c2, w2, hr2, ⟨?_, _, ho2, ?_⟩, hb12⟩
  · rw [List.length_eraseIdx, h.len, if_pos ha]
  · rw [← erase_parts (by rw [h.len]; exact ha)]
    exact Quads.app (Quads.stays (stays_below hb12 _) htk2.2) (Quads.stays (stays_below hb12 _) htk.1)
end Go.Proofs.YtlhogjigdmpokaaGreatDoor.vtc
