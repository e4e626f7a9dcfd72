/- The search's two iterators: over a vault's terms, and over what is had and not told. The search begins: what its reading lays, whatever the order; the iterators' makers. The search reads a vault: all the ways of its terms. A region that draws its order, within a round of a loop over an iterator: by the walk that takes loads first. Lists of numbers that lie apart from the search; adding a way among them. What lies there while the search is laid, whatever the order. The powers' map is gone through, whatever the order: the step of its range; what is added. -/
import Derived.RangeFuncBound
import Derived.RangeFuncCalls
import Derived.Shelf.RegionOpen
import Derived.OwnWalkIn
import Derived.TacticsInMore
import Derived.LoopNIn
import Derived.LoopIn
import Derived.Test.YtlhogjigdmpokaaGreatDoorFc
import Derived.Deep.CutRange
import Derived.Deep.RegionHeld3
import Derived.Deep.OwnRows
import Derived.Maps.OwnIn
import Derived.OrdersHeld
import Derived.OrdersIn
import Derived.Sort.CutIn
import Derived.Maps.RangeWalk
namespace Go.Proofs.YtlhogjigdmpokaaGreatDoor.vtc
open Go.RowKit Go.Proofs.YtlhogjigdmpokaaGreatDoor.tlvc Go.Proofs.YtlhogjigdmpokaaGreatDoor.tmc Go.Proofs.YtlhogjigdmpokaaGreatDoor.rfc
set_option linter.unusedVariables false
attribute [local go_sem] Oper.semAt_some
/-- What the iterator over a vault's terms hands out. -/
def RdT {G : Type} (L : List Tm) (free : G → Nat → Prop) (k : Nat) (γ : G) (x : Nat × Value) (W : World) : Prop := x.1 = k ∧ ∃ t c0 c1 c2 c3, L[k]? = some t ∧ x.2 = .agg #[c0, c1, c2, c3] ∧ TmC (free γ) W t c0 c1 c2 c3
set_option maxRecDepth 100000 in
set_option maxHeartbeats 4000000 in
theorem terms_seq {G : Type} {S : Nat → Prop} {vb mb : Nat} {ob : Option Nat} {L : List Tm} (m : Nat) (Bv : Nat) (free : G → Nat → Prop) (I : Nat → G → World → Prop) (hsz : ∀ t ∈ L, szT t ≤ 100000) (hlen : L.length ≤ 4096)
    (hI : ∀ k γ A, I k γ A → A.cell? ⟨Bv, 0, none⟩ = some (.pointer (some ⟨vb, 0, none⟩)) ∧ Vlt S A vb mb ob L ∧ ∀ g, A.heap.size ≤ g → free γ g) :
    SeqJ Fence.wide m Tryz.prog 75 #[.pointer (some ⟨Bv, 0, none⟩)] (fun x : Nat × Value => #[.int .i64 (x.1 : Nat), x.2]) I (RdT L free) (fun _ _ => False) L.length := by
  intro l J Jx W hJI hJb hY _ h0
  obtain ⟨γ0, h0⟩ := h0
  obtain ⟨N, hN⟩ : ∃ N, L.length = N := ⟨_, rfl⟩
  rw [hN] at hlen hY ⊢
  have HH := Lib.hid (And.intro hJI (And.intro hJb (And.intro hY (And.intro hI (And.intro hN hsz)))))
  obtain ⟨b0, hV0, _⟩ := hI 0 γ0 W (hJI 0 γ0 W h0)
  have HJ0 := Lib.hid h0
  have hlenc : Calls Tryz.prog 16 #[.pointer (some ⟨vb, 0, none⟩)] W fun e w' => e = .returned (.int .i64 N) ∧ w' = W := by
    obtain ⟨A9, c9, y0, _⟩ := hV0.cells
    rw [hN] at y0
    exact len_cell _ _ _ _ _ y0
  have HLC := Lib.hid hlenc
  clear hJI hJb hY hI hN hsz hV0 h0 hlenc
  refine callsIn_of_wp Tryz.func75 rfl trivial ?_ rfl
  simp only [Tryz.ntmps75, List.size_toArray, List.length_cons, List.length_nil, Nat.reduceAdd, Nat.reduceSub, Array.replicate_succ, Array.replicate_zero, List.push_toArray, List.append_toArray, List.nil_append, List.cons_append]
  gi_wp2_with (refine ⟨trivial, (fun h => by cases h), ?_⟩; gi_at_call 16; refine (callsIn_wide.2 HLC.out).mono ?_; rintro e w1 ⟨rfl, rfl⟩)
  gi_loopw [8] (fun p wr => ∃ (k : Nat) (γ : G), p = .int .i64 k ∧ k ≤ N ∧ J k γ wr) (fun p _ => N - (intOf p).toNat)
  case atStart => exact ⟨0, γ0, rfl, by omega, HJ0.out⟩
  case round =>
    obtain ⟨k, γ, rfl, hk, hJ⟩ := hrel
    by_cases hlt : k < N
    · have hltz : (k : Int) < (N : Int) := by omega
      obtain ⟨b1, hV1, hlo⟩ := HH.out.2.2.2.1 k γ wr (HH.out.1 k γ wr hJ)
      obtain ⟨t, htm⟩ : ∃ t, L[k]? = some t := ⟨_, List.getElem?_eq_getElem (by rw [HH.out.2.2.2.2.1]; exact hlt)⟩
      have HT := Lib.hid (term_nf S vb mb ob L k t wr hV1 htm (HH.out.2.2.2.2.2 t (List.mem_of_getElem? htm)))
      have HK := Lib.hid (And.intro hJ (And.intro htm hlo))
      clear hV1 htm hJ hlo
      gi_wp2_with (refine ⟨trivial, (fun h => by cases h), ?_⟩; gi_at_call 18; refine (callsIn_wide.2 HT.out).mono ?_; rintro e w1 ⟨v, rfl, ⟨y0, y1, y2, y3, rfl, hy⟩, hb1, _⟩; obtain ⟨o5, m5, A5, la5, ca5, K5, lk5, ck5, rfl, rfl, rfl, rfl⟩ := hy.shape; have hb2 := below_new w1 (.cells #[.int .i64 o5, .int .i64 m5, .slice A5 la5 ca5, .slice K5 lk5 ck5] 43); have hJ2 := HH.out.2.1 k γ _ _ HK.out.1 (blw hb1 hb2); obtain ⟨fn, tmps, assign, body, hyy, hR⟩ := HH.out.2.2.1 k γ (k, .agg #[.int .i64 o5, .int .i64 m5, .slice A5 la5 ca5, .slice K5 lk5 ck5]) _ hlt hJ2 ⟨rfl, t, _, _, _, _, HK.out.2.1, rfl, TmC.mono (fun g hg => HK.out.2.2 g hg) _ _ _ _ _ (TmC.below hb2 _ _ _ _ _ hy)⟩; dsimp only at hyy; have HR := Lib.hid hR; clear hR hJ2 hy hb1 hb2)
      refine ⟨(fun h => by cases h), HR.out.mono ?_⟩
      rintro e W3 (⟨rfl, γ', hJ3⟩ | ⟨rfl, hJx3⟩)
      · gi_wp2
        go_roundw
        case rel => exact ⟨k + 1, γ', by go_num, by omega, hJ3⟩
        case measure => simp [intOf]; omega
      · gi_wp2
        refine bodyPost_ret (results_none rfl _ _ _) rfl ?_
        exact ⟨⟨_, rfl⟩, .inr hJx3⟩
    · obtain rfl : k = N := by omega
      gi_wp2
      go_end0
      exact ⟨⟨_, rfl⟩, .inl ⟨γ, hJ⟩⟩
/-- Had, and not told. -/
def Fresh (hb tb k : Nat) (W : World) : Prop := W.cell? ⟨hb, k, none⟩ = some (.bool true) ∧ W.cell? ⟨tb, k, none⟩ = some (.bool false)
set_option maxRecDepth 100000 in
set_option maxHeartbeats 4000000 in
theorem news_seq {G : Type} (m : Nat) (Bv sb hb tb N : Nat) (I : Nat → G → World → Prop) (hlen : N ≤ 4096)
    (hI : ∀ k γ A, I k γ A → A.cell? ⟨Bv, 0, none⟩ = some (.pointer (some ⟨sb, 0, none⟩)) ∧ A.cell? ⟨sb, 0, none⟩ = some (.slice (some ⟨hb, 0, none⟩) N N) ∧ A.cell? ⟨sb, 1, none⟩ = some (.slice (some ⟨tb, 0, none⟩) N N) ∧ ∀ i, i < N → ∃ u v, A.cell? ⟨hb, i, none⟩ = some (.bool u) ∧ A.cell? ⟨tb, i, none⟩ = some (.bool v)) :
    SeqJ Fence.wide m Tryz.prog 57 #[.pointer (some ⟨Bv, 0, none⟩)] (fun x : Nat => #[.int .i64 (x : Nat)]) I (fun k _ x W => x = k ∧ Fresh hb tb k W) (fun k W => ¬ Fresh hb tb k W) N := by
  intro l J Jx W hJI hJb hY hSk h0
  obtain ⟨γ0, h0⟩ := h0
  have HH := Lib.hid (And.intro hJI (And.intro hY (And.intro hI hSk)))
  obtain ⟨b0, s0, _, _⟩ := hI 0 γ0 W (hJI 0 γ0 W h0)
  have HJ0 := Lib.hid h0
  clear hJI hJb hY hI h0 hSk
  refine callsIn_of_wp Tryz.func57 rfl trivial ?_ rfl
  simp only [Tryz.ntmps57, List.size_toArray, List.length_cons, List.length_nil, Nat.reduceAdd, Nat.reduceSub, Array.replicate_succ, Array.replicate_zero, List.push_toArray, List.append_toArray, List.nil_append, List.cons_append]
  gi_wp2
  gi_loopw [10] (fun p wr => ∃ (k : Nat) (γ : G), p = .int .i64 k ∧ k ≤ N ∧ J k γ wr) (fun p _ => N - (intOf p).toNat)
  case atStart => exact ⟨0, γ0, rfl, by omega, HJ0.out⟩
  case round =>
    obtain ⟨k, γ, rfl, hk, hJ⟩ := hrel
    by_cases hlt : k < N
    · have hltz : (k : Int) < (N : Int) := by omega
      obtain ⟨b1, s1, s2, hcs⟩ := HH.out.2.2.1 k γ wr (HH.out.1 k γ wr hJ)
      obtain ⟨u, v, x0, x1⟩ := hcs k hlt
      clear hcs b0 s0
      cases u with
      | false =>
        have hJn := HH.out.2.2.2 k γ wr hlt hJ (fun h => by have := x0.symm.trans h.1; cases this)
        gi_wp2
        try (refine ⟨fun _ h => (by cases h), ?_⟩)
        gi_wp2
        go_roundw
        case rel => exact ⟨k + 1, γ, by go_num, by omega, hJn⟩
        case measure => simp [intOf]; omega
      | true =>
        cases v with
        | true =>
          have hJn := HH.out.2.2.2 k γ wr hlt hJ (fun h => by have := x1.symm.trans h.2; cases this)
          gi_wp2
          try (refine ⟨fun _ h => (by cases h), ?_⟩)
          gi_wp2
          go_roundw
          case rel => exact ⟨k + 1, γ, by go_num, by omega, hJn⟩
          case measure => simp [intOf]; omega
        | false =>
          obtain ⟨fn, tmps, assign, body, hyy, hR⟩ := HH.out.2.1 k γ k wr hlt hJ ⟨rfl, x0, x1⟩
          have HR := Lib.hid hR
          clear hR
          gi_wp2
          refine ⟨(fun h => by cases h), HR.out.mono ?_⟩
          rintro e W3 (⟨rfl, γ', hJ3⟩ | ⟨rfl, hJx3⟩)
          · gi_wp2
            go_roundw
            case rel => exact ⟨k + 1, γ', by go_num, by omega, hJ3⟩
            case measure => simp [intOf]; omega
          · gi_wp2
            refine bodyPost_ret (results_none rfl _ _ _) rfl ?_
            exact ⟨⟨_, rfl⟩, .inr hJx3⟩
    · obtain rfl : k = N := by omega
      gi_wp2
      go_end0
      exact ⟨⟨_, rfl⟩, .inl ⟨γ, hJ⟩⟩
end Go.Proofs.YtlhogjigdmpokaaGreatDoor.vtc
namespace Go.Proofs.YtlhogjigdmpokaaGreatDoor.vtc
open Go.RowKit Go.Proofs.YtlhogjigdmpokaaGreatDoor.tlvc Go.Proofs.YtlhogjigdmpokaaGreatDoor.tmc Go.Proofs.YtlhogjigdmpokaaGreatDoor.rfc
set_option linter.unusedVariables false
theorem keep2 {W : World} {a b : Addr} {x y : Value} {o : Obj} (h : W.cell? a = some x ∧ W.cell? b = some y) : (W.alloc o).cell? a = some x ∧ (W.alloc o).cell? b = some y :=
  ⟨((below_new W o).cell (block_lt_of_cell h.1)).trans h.1, ((below_new W o).cell (block_lt_of_cell h.2)).trans h.2⟩
theorem heap_is {W : World} {o : Obj} {k : Nat} (h : k = W.heap.size) : (W.alloc o).heap[k]? = some o := by subst h; exact heap_new_ _ _
theorem heap_old {W : World} {o x : Obj} {k : Nat} (hk : k < W.heap.size) (h : W.heap[k]? = some x) : (W.alloc o).heap[k]? = some x := ((below_new W o).block k hk).trans h
theorem below_more {w W : World} (h : Below w.heap.size w W) (o : Obj) : Below w.heap.size w (W.alloc o) := blw h (below_new W o)
theorem len_cell2 {vb b n c : Nat} {A : Option Addr} {x : Value} {W : World} (h : W.cell? ⟨b, 0, none⟩ = some x ∧ W.cell? ⟨vb, 0, none⟩ = some (.slice A n c)) : Calls Tryz.prog 16 #[.pointer (some ⟨vb, 0, none⟩)] W fun e w' => e = .returned (.int .i64 n) ∧ w' = W := len_cell _ _ _ _ _ h.2
theorem Tryz.infoBool : (Tryz.prog.info? 4).map (fun i => (i.zero, i.size, i.bytes)) = some (some (.bool false), 1, 1) := by kernel_rfl
theorem Tryz.infoSteps : (Tryz.prog.info? 98).map (fun i => (i.zero, i.size, i.bytes)) = some (some (.slice none 0 0), 1, 24) := by kernel_rfl
/-- What lies there when the search has been laid. -/
structure Made5 (w : World) (vb N Bs sb hb tb rb : Nat) (W : World) : Prop where
  b1 : W.heap[w.heap.size]? = some (.cells #[.pointer (some ⟨vb, 0, none⟩)] 26)
  p : W.heap[Bs]? = some (.cells #[.pointer (some ⟨sb, 0, none⟩)] 62)
  s : W.heap[sb]? = some (.cells #[.slice (some ⟨hb, 0, none⟩) N N, .slice (some ⟨tb, 0, none⟩) N N, .slice (some ⟨rb, 0, none⟩) N N] 72)
  h : W.heap[hb]? = some (.cells (madeCells #[.bool false] N) 4)
  t : W.heap[tb]? = some (.cells (madeCells #[.bool false] N) 4)
  r : W.heap[rb]? = some (.cells (madeCells #[.slice none 0 0] N) 98)
  near : w.heap.size < Bs ∧ w.heap.size < sb ∧ w.heap.size < hb ∧ w.heap.size < tb ∧ w.heap.size < rb
  ht : hb ≠ tb
  bel : Below w.heap.size w W
theorem Made5.below {w W W' : World} {vb N Bs sb hb tb rb : Nat} (m : Made5 w vb N Bs sb hb tb rb W) (hb' : Below W.heap.size W W') : Made5 w vb N Bs sb hb tb rb W' := by
  have k : ∀ {g : Nat} {o : Obj}, W.heap[g]? = some o → W'.heap[g]? = some o := fun h => (hb'.block _ (Array.getElem?_eq_some_iff.1 h).1).trans h
  exact ⟨k m.b1, k m.p, k m.s, k m.h, k m.t, k m.r, m.near, m.ht, blw m.bel hb'⟩
/-- The tags at the beginning. -/
def tag0 (sb hb tb rb g : Nat) : Tag := if g = sb then .srch else if g = hb then .had else if g = tb then .told else if g = rb then .tab else .other
theorem made_tru {W : World} {b N : Nat} {T : TypeId} (h : W.heap[b]? = some (.cells (madeCells #[.bool false] N) T)) : Tru W b T (List.replicate N false) := by
  unfold Tru
  rw [List.length_replicate]
  exact ⟨_, h, size_madeCells _ _, fun i hi => by
    have e : (List.replicate N false).getD i false = false := by rw [List.getD_eq_getElem?_getD, List.getElem?_replicate, if_pos hi]; rfl
    show _ = some (Value.bool ((List.replicate N false).getD i false))
    rw [e]
    simp [madeCells, hi, Nat.mod_one]⟩
theorem Made5.sch {w W : World} {vb N Bs sb hb tb rb : Nat} (m : Made5 w vb N Bs sb hb tb rb W) (hN : N ≤ 4096) : Sch w.heap.size (tag0 sb hb tb rb) W sb hb tb rb (List.replicate N false) (List.replicate N false) (lkT (List.replicate N false) []) (fun _ => []) [] ∧ (∀ g, g = w.heap.size ∨ g = Bs → tag0 sb hb tb rb g = .other) := by
  have tne : ∀ {g g' : Nat} {c c' : Array Value} {T T' : TypeId}, W.heap[g]? = some (.cells c T) → W.heap[g']? = some (.cells c' T') → T ≠ T' → g ≠ g' := fun h h' hT e => by
    subst e
    rw [h] at h'
    cases h'
    exact hT rfl
  have e1 : hb ≠ sb := tne m.h m.s (by decide)
  have e2 : tb ≠ sb := tne m.t m.s (by decide)
  have e3 : rb ≠ sb := tne m.r m.s (by decide)
  have e4 : rb ≠ hb := tne m.r m.h (by decide)
  have e5 : rb ≠ tb := tne m.r m.t (by decide)
  have e6 : Bs ≠ sb := tne m.p m.s (by decide)
  have e7 : Bs ≠ hb := tne m.p m.h (by decide)
  have e8 : Bs ≠ tb := tne m.p m.t (by decide)
  have e9 : Bs ≠ rb := tne m.p m.r (by decide)
  obtain ⟨n1, n2, n3, n4, n5⟩ := m.near
  have lt : ∀ {g : Nat} {o : Obj}, W.heap[g]? = some o → g < W.heap.size := fun h => (Array.getElem?_eq_some_iff.1 h).1
  have far : ∀ g, g ≠ sb → g ≠ hb → g ≠ tb → g ≠ rb → tag0 sb hb tb rb g = .other := fun g h1 h2 h3 h4 => by
    unfold tag0
    rw [if_neg h1, if_neg h2, if_neg h3, if_neg h4]
  have ways : ∀ g, tag0 sb hb tb rb g ≠ .other → g = sb ∨ g = hb ∨ g = tb ∨ g = rb := fun g hg => by
    by_cases h1 : g = sb
    · exact .inl h1
    by_cases h2 : g = hb
    · exact .inr (.inl h2)
    by_cases h3 : g = tb
    · exact .inr (.inr (.inl h3))
    by_cases h4 : g = rb
    · exact .inr (.inr (.inr h4))
    exact absurd (far g h1 h2 h3 h4) hg
  refine ⟨⟨by rw [List.length_replicate]; exact m.s, if_pos rfl, made_tru m.h, by unfold tag0; rw [if_neg e1, if_pos rfl], made_tru m.t, by unfold tag0; rw [if_neg e2, if_neg m.ht.symm, if_pos rfl], rfl, by rw [List.length_replicate]; exact hN, ⟨fun _ => .slice none 0 0, by rw [List.length_replicate]; exact ⟨_, m.r, size_madeCells _ _, fun i hi => by simp [madeCells, hi, Nat.mod_one]⟩, fun i _ => ⟨World.ownsRow_nil _ _ _ _, (fun g e => by cases e)⟩⟩, by unfold tag0; rw [if_neg e3, if_neg e4, if_neg e5, if_pos rfl], fun j p h => by simp at h, fun i => ⟨fun j h => by simp at h, Nat.le_refl _⟩, fun g hg => ?_, fun g o hg ho => ?_, fun g hg => ?_⟩, fun g hg => ?_⟩
  · refine far g (fun e => ?_) (fun e => ?_) (fun e => ?_) (fun e => ?_) <;> subst e
    · have := lt m.s; omega
    · have := lt m.h; omega
    · have := lt m.t; omega
    · have := lt m.r; omega
  · rcases ways g hg with rfl | rfl | rfl | rfl
    · rw [m.s] at ho; cases ho; rfl
    · rw [m.h] at ho; cases ho; rfl
    · rw [m.t] at ho; cases ho; rfl
    · rw [m.r] at ho; cases ho; rfl
  · rcases ways g hg with rfl | rfl | rfl | rfl <;> omega
  · rcases hg with rfl | rfl
    · exact far _ (by omega) (by omega) (by omega) (by omega)
    · exact far _ e6 e7 e8 e9
theorem wok_nil (N : Nat) : WOk N (fun _ => []) [] := ⟨fun i => ⟨fun j h => by simp at h, fun j w h => by simp at h⟩, fun w h => by simp at h, fun w h => by simp at h, fun w h => by simp at h⟩
set_option maxHeartbeats 1000000 in
theorem terms_call (vb : Nat) (w : World) : Calls Tryz.prog 51 #[.pointer (some ⟨vb, 0, none⟩)] w fun e w' => e = .returned (.func (.func 75) #[] #[.pointer (some ⟨w.heap.size, 0, none⟩)]) ∧ w' = w.alloc (.cells #[.pointer (some ⟨vb, 0, none⟩)] 26) := by
  go_enter Tryz.func51, Tryz.ntmps51
  go_wp2
  go_ret
  exact ⟨rfl, rfl⟩
set_option maxHeartbeats 1000000 in
theorem news_call (sb : Nat) (w : World) : Calls Tryz.prog 31 #[.pointer (some ⟨sb, 0, none⟩)] w fun e w' => e = .returned (.func (.func 57) #[] #[.pointer (some ⟨w.heap.size, 0, none⟩)]) ∧ w' = w.alloc (.cells #[.pointer (some ⟨sb, 0, none⟩)] 62) := by
  go_enter Tryz.func31, Tryz.ntmps31
  go_wp2
  go_ret
  exact ⟨rfl, rfl⟩
end Go.Proofs.YtlhogjigdmpokaaGreatDoor.vtc
namespace Go.Proofs.YtlhogjigdmpokaaGreatDoor.vtc
open Go.RowKit Go.Proofs.YtlhogjigdmpokaaGreatDoor.tlvc Go.Proofs.YtlhogjigdmpokaaGreatDoor.tmc Go.Proofs.YtlhogjigdmpokaaGreatDoor.rfc
set_option linter.unusedVariables false
attribute [local go_sem] Oper.semAt_some
mutual
theorem TmC.live {B : Nat → Prop} {w : World} : ∀ (n : Tm) (c0 c1 c2 c3 : Value), TmC B w n c0 c1 c2 c3 → TmC (fun g => B g ∧ ∃ o : Obj, w.heap[g]? = some o ∧ o.isCells = true) w n c0 c1 c2 c3
  | .mk o m d ks, c0, c1, c2, c3, h => by
    unfold TmC at h ⊢
    obtain ⟨e0, ho, e1, hm, ⟨A, la, ca, e2, h1, h2, h3, h4⟩, K, ck, e3, h5, h6, h7⟩ := h
    refine ⟨e0, ho, e1, hm, ⟨A, la, ca, e2, h1, h2, h3, fun hl g off sp e => ⟨h4 hl g off sp e, ?_⟩⟩, K, ck, e3, h5, h6, fun hk => ?_⟩
    · obtain ⟨b', off', e', hb', hc⟩ := h3.2.2 hl
      rw [e'] at e; cases e
      exact cells_of_cell (hc 0 hl)
    · obtain ⟨g, off, eK, hg, hBg, hks⟩ := h7 hk
      obtain ⟨_, _, _, _, hc, _⟩ := hks.at 0 hk
      exact ⟨g, off, eK, hg, ⟨hBg, cells_of_cell hc⟩, KidsC.live ks off hks⟩
theorem KidsC.live {B : Nat → Prop} {w : World} {g : Nat} : ∀ (ks : List Tm) (off : Nat), KidsC B w g off ks → KidsC (fun g => B g ∧ ∃ o : Obj, w.heap[g]? = some o ∧ o.isCells = true) w g off ks
  | [], _, _ => by unfold KidsC; trivial
  | k :: ks, off, h => by
    unfold KidsC at h ⊢
    obtain ⟨⟨c0, c1, c2, c3, h0, h1, h2, h3, hk⟩, hr⟩ := h
    exact ⟨⟨c0, c1, c2, c3, h0, h1, h2, h3, TmC.live k c0 c1 c2 c3 hk⟩, KidsC.live ks (off + 4) hr⟩
end
theorem TmC.grown {B : Nat → Prop} {w w' : World} {row : Option Nat} (hg : w.grownBy w' row) (hr : ∀ r, row = some r → ∃ o : Obj, w.heap[r]? = some o ∧ o.isCells = false) {n : Tm} {c0 c1 c2 c3 : Value} (h : TmC B w n c0 c1 c2 c3) : TmC B w' n c0 c1 c2 c3 :=
  TmC.mono (fun g hg => hg.1) _ _ _ _ _ (TmC.stays ⟨hg.size, fun p hp hl => cell_same (hg.block _ hl fun e => by
    obtain ⟨o, ho, hc⟩ := hr _ e.symm
    obtain ⟨o', ho', hc'⟩ := hp.2
    rw [ho] at ho'; cases ho'; rw [hc] at hc'; cases hc')⟩ _ _ _ _ _ (TmC.live _ _ _ _ _ h))
theorem own_more {H : Type} {w : World} {P : Program} {k : TypeId} {R : Value → Option (DataW H × List MemPlace)} {b n : Nat} {D : DataW H} (h : w.ownsMap P k R b n D) : w.ownsMap P k R b (n + 1) D := by
  obtain ⟨es, clock, h1, h2, h3, h4⟩ := h
  exact ⟨es, clock, h1, h2, Nat.le_succ_of_le h3, h4⟩
/-- What the reader keeps in mind. -/
structure Gh where
  K : Nat → Tag
  PS : List Plc
  RJ : Nat → List Nat
  hd : List Bool
  D : DataW Unit
structure RdI (w : World) (L : List Tm) (vb Bs Bm Bv sb hb tb rb mb lo : Nat) (k : Nat) (γ : Gh) (W : World) : Prop where
  sch : Sch w.heap.size γ.K W sb hb tb rb γ.hd (List.replicate L.length false) (lkT (List.replicate L.length false) (γ.PS.map Plc.way)) γ.RJ γ.PS
  ok : WOk L.length γ.RJ γ.PS
  len : γ.hd.length = L.length
  cnt : γ.PS.length ≤ 2 * k
  adds : Adds L.length (fun v => ∃ j, j < k ∧ v ∈ baseW L j) (γ.PS.map Plc.way) γ.hd
  map : W.ownsMap Tryz.prog 95 (plainElem Tryz.prog 3) mb k γ.D
  pm : PMap γ.D L k
  t1 : γ.K w.heap.size = .other
  ts : γ.K Bs = .other
  t4 : γ.K Bm = .other
  tv : γ.K Bv = .other
  tm : γ.K mb = .other
  h1 : W.heap[w.heap.size]? = some (.cells #[.pointer (some ⟨vb, 0, none⟩)] 26)
  hs : W.heap[Bs]? = some (.cells #[.pointer (some ⟨sb, 0, none⟩)] 62)
  h4 : W.heap[Bm]? = some (.cells #[.map (some mb)] 86)
  hv : W.heap[Bv]? = some (.cells #[.pointer (some ⟨vb, 0, none⟩)] 26)
  bel : Below w.heap.size w W
  lod : lo ≤ W.heap.size
  mlo : mb < lo ∧ w.heap.size ≤ mb
section
variable {w : World} {L : List Tm} {vb Bs Bm Bv sb hb tb rb mb lo k : Nat} {γ : Gh} {W W' : World}
theorem RdI.free (h : RdI w L vb Bs Bm Bv sb hb tb rb mb lo k γ W) {g : Nat} {o : Obj} (hg : W.heap[g]? = some o) (ho : o.isCells = false) : γ.K g = .other :=
  Classical.byContradiction fun hne => by have := h.sch.cell g o hne hg; rw [ho] at this; cases this
theorem RdI.grown (h : RdI w L vb Bs Bm Bv sb hb tb rb mb lo k γ W) {row : Option Nat} (hg : W.grownBy W' row) (hr : ∀ r, row = some r → lo ≤ r ∧ ∃ o : Obj, W.heap[r]? = some o ∧ o.isCells = false) : RdI w L vb Bs Bm Bv sb hb tb rb mb lo k γ W' := by
  have keep : ∀ {g : Nat} {cs : Array Value} {T : TypeId}, W.heap[g]? = some (.cells cs T) → W'.heap[g]? = some (.cells cs T) := fun {g cs T} hc => (hg.block g (Array.getElem?_eq_some_iff.1 hc).1 (fun e => by
    obtain ⟨_, o, ho, hoc⟩ := hr g e.symm
    rw [hc] at ho; cases ho; cases hoc)).trans hc
  exact ⟨h.sch.grown hg fun r e => ⟨by obtain ⟨_, o, ho, hoc⟩ := hr r e; exact h.free ho hoc, (hr r e).2⟩, h.ok, h.len, h.cnt, h.adds, map_same h.map (hg.block mb h.map.lt (fun e => by have := (hr mb e.symm).1; have := h.mlo.1; omega)), h.pm, h.t1, h.ts, h.t4, h.tv, h.tm, keep h.h1, keep h.hs, keep h.h4, keep h.hv, h.bel.grown hg h.bel.size (fun r e => by have := h.mlo; have := (hr r e).1; omega), Nat.le_trans h.lod hg.size, h.mlo⟩
theorem RdI.below (h : RdI w L vb Bs Bm Bv sb hb tb rb mb lo k γ W) (hb' : Below W.heap.size W W') : RdI w L vb Bs Bm Bv sb hb tb rb mb lo k γ W' := h.grown (grown_of_below hb' none) (fun r e => by cases e)
/-- A round's end: so many ways more, and perhaps a power. -/
theorem RdI.next (h : RdI w L vb Bs Bm Bv sb hb tb rb mb lo k γ W) {AQ : Way → Prop} {c : Nat} {K' : Nat → Tag} {PS' : List Plc} {RJ' : Nat → List Nat} {hd' : List Bool} (hG : Grew w.heap.size sb hb tb rb (List.replicate L.length false) L.length γ.K γ.PS γ.hd AQ c W W' K' PS' RJ' hd') (hc : c ≤ 2) (hA : ∀ v, AQ v ↔ v ∈ baseW L k) (hno : ∀ l, ¬ PwI L l k) :
    RdI w L vb Bs Bm Bv sb hb tb rb mb lo (k + 1) ⟨K', PS', RJ', hd', γ.D⟩ W' ∧ KeepsFrom lo W W' := by
  have lt : ∀ {g : Nat} {o : Obj}, W.heap[g]? = some o → g < W.heap.size := fun h => (Array.getElem?_eq_some_iff.1 h).1
  have keep : ∀ {g : Nat} {o : Obj}, W.heap[g]? = some o → γ.K g = .other → W'.heap[g]? = some o := fun hc hk => (hG.off.block _ (lt hc) (fun e => e hk)).trans hc
  refine ⟨⟨hG.sch, hG.ok, hG.len, by have := hG.cnt; have := h.cnt; show PS'.length ≤ 2 * (k + 1); omega, (hG.adds _ h.adds).same fun v => ?_, own_more (map_same h.map (hG.off.block mb h.map.lt (fun e => e h.tm))), h.pm.skip hno, hG.tag _ (lt h.h1) h.t1, hG.tag _ (lt h.hs) h.ts, hG.tag _ (lt h.h4) h.t4, hG.tag _ (lt h.hv) h.tv, hG.tag _ h.map.lt h.tm, keep h.h1 h.t1, keep h.hs h.ts, keep h.h4 h.t4, keep h.hv h.tv, h.bel.trans (hG.off.below (fun g hg => h.sch.near g hg) h.bel.size), Nat.le_trans h.lod hG.off.size, h.mlo⟩, hG.off.size, fun g o _ hg ho => keep hg (h.free hg ho)⟩
  rw [hA]
  constructor
  · rintro (⟨j, hj, hv⟩ | hv)
    · exact ⟨j, by omega, hv⟩
    · exact ⟨k, Nat.lt_succ_self _, hv⟩
  · rintro ⟨j, hj, hv⟩
    by_cases e : j = k
    · subst e; exact .inr hv
    · exact .inl ⟨j, by omega, hv⟩
theorem RdI.nextPow (T : Tbl L) (h : RdI w L vb Bs Bm Bv sb hb tb rb mb lo k γ W) {AQ : Way → Prop} {c : Nat} {K' : Nat → Tag} {PS' : List Plc} {RJ' : Nat → List Nat} {hd' : List Bool} {W2 : World} (hG : Grew w.heap.size sb hb tb rb (List.replicate L.length false) L.length γ.K γ.PS γ.hd AQ c W W' K' PS' RJ' hd') (hc : c ≤ 2) (hA : ∀ v, AQ v ↔ v ∈ baseW L k) {l : List Int} (hl : PwI L l k)
    (hm : W2.ownsMap Tryz.prog 95 (plainElem Tryz.prog 3) mb (k + 1) (γ.D.put (klP l) (.lit (.int .i64 k)))) (hg : W'.grownBy W2 (some mb)) : RdI w L vb Bs Bm Bv sb hb tb rb mb lo (k + 1) ⟨K', PS', RJ', hd', γ.D.put (klP l) (.lit (.int .i64 k))⟩ W2 ∧ KeepsFrom lo W W2 := by
  have lt : ∀ {g : Nat} {o : Obj}, W.heap[g]? = some o → g < W.heap.size := fun h => (Array.getElem?_eq_some_iff.1 h).1
  have hmk := map_same h.map (hG.off.block mb h.map.lt (fun e => e h.tm))
  obtain ⟨es, clock, hmo, _⟩ := hmk
  have hmt := hG.tag _ h.map.lt h.tm
  have keep2 : ∀ {g : Nat} {cs : Array Value} {T : TypeId}, W'.heap[g]? = some (.cells cs T) → W2.heap[g]? = some (.cells cs T) := fun {g cs T} hc => (hg.block g (Array.getElem?_eq_some_iff.1 hc).1 (fun e => by
    cases e
    rw [hc] at hmo; cases hmo)).trans hc
  have keep : ∀ {g : Nat} {o : Obj}, W.heap[g]? = some o → γ.K g = .other → W'.heap[g]? = some o := fun hc hk => (hG.off.block _ (lt hc) (fun e => e hk)).trans hc
  refine ⟨⟨hG.sch.grown hg fun r e => by cases e; exact ⟨hmt, _, hmo, rfl⟩, hG.ok, hG.len, by have := hG.cnt; have := h.cnt; show PS'.length ≤ 2 * (k + 1); omega, (hG.adds _ h.adds).same fun v => ?_, hm, h.pm.put T hl, hG.tag _ (lt h.h1) h.t1, hG.tag _ (lt h.hs) h.ts, hG.tag _ (lt h.h4) h.t4, hG.tag _ (lt h.hv) h.tv, hmt, keep2 (keep h.h1 h.t1), keep2 (keep h.hs h.ts), keep2 (keep h.h4 h.t4), keep2 (keep h.hv h.tv), (h.bel.trans (hG.off.below (fun g hg => h.sch.near g hg) h.bel.size)).grown hg (Nat.le_trans h.bel.size hG.off.size) (fun r e => by cases e; exact h.mlo.2), Nat.le_trans h.lod (Nat.le_trans hG.off.size hg.size), h.mlo⟩, Nat.le_trans hG.off.size hg.size, fun g o hB hgo ho => (hg.block g (Nat.lt_of_lt_of_le (lt hgo) hG.off.size) (fun e => by cases e; have := h.mlo.1; omega)).trans (keep hgo (h.free hgo ho))⟩
  rw [hA]
  constructor
  · rintro (⟨j, hj, hv⟩ | hv)
    · exact ⟨j, by omega, hv⟩
    · exact ⟨k, Nat.lt_succ_self _, hv⟩
  · rintro ⟨j, hj, hv⟩
    by_cases e : j = k
    · subst e; exact .inr hv
    · exact .inl ⟨j, by omega, hv⟩
end
/-- A block that is no part of the search. -/
def freeG (γ : Gh) (g : Nat) : Prop := γ.K g = .other
end Go.Proofs.YtlhogjigdmpokaaGreatDoor.vtc
namespace Go.Proofs.YtlhogjigdmpokaaGreatDoor.rfc
open Go
/-- Normal ends alone. -/
def NormalOnly (Q : Exit → Act → World → Prop) : Exit → Act → World → Prop
  | .normal, a, w => Q .normal a w
  | _, _, _ => False
theorem NormalOnly.intro {Q : Exit → Act → World → Prop} {a : Act} {w : World} (h : Q .normal a w) : NormalOnly Q .normal a w := h
theorem NormalOnly.lets {Q : Exit → Act → World → Prop} : ¬ LetsOut (NormalOnly Q) := fun ⟨_, _, h⟩ => h
theorem rowsIn_round {l n : Nat} {P : Program} {row : String} {args : Array Value} {w : World} {R : Value → World → Prop} (h : Rows P row args w R) : RowsIn (Fence.wide.inRound l) n P row args w R :=
  fun c cs _ => let ⟨v, w', r, s⟩ := h c cs; ⟨v, w', r, stepsIn_wide.2 s⟩
section
variable {l n : Nat} {P : Program} {ops : Array Oper} {Q : Exit → Act → World → Prop}
theorem wpOpIn_of_wpOp {i : Nat} {K : Act → World → Prop} {a : Act} {w : World} (hno : ∀ o : Oper, ops[i]? = some o → ∀ c : Call, o.op ≠ .defer c)
    (h : wpOp P ops (NormalOnly Q) i K a w) : wpOpIn (Fence.wide.inRound l) n P ops Q i K a w := by
  unfold wpOp at h
  unfold wpOpIn
  cases ho : ops[i]? with
  | none => rw [ho] at h; exact h
  | some o =>
    rw [ho] at h
    simp only at h ⊢
    by_cases hw : Region.wanted o (yielded ops a.tmps) = true
    · simp only [hw, if_true] at h ⊢
      rcases h with h | h
      · refine ⟨fun _ _ => trivial, ?_⟩
        unfold Oper.wp at h
        rw [Oper.semAt_eq _ _ _ (hno o ho)]
        generalize (execOp a.eval o).run P w = r at h
        cases r with
        | ok x w' =>
          cases x <;> simp only [Oper.upon] at h <;> simp only [Oper.uponIn]
          case value v => exact h
          case skip => exact h
          case defer d => exact h
          case enter f args =>
            refine ⟨fun e => (Bool.false_ne_true e).elim, callsIn_wide.2 ?_⟩
            refine Calls.mono h fun e w'' he => ?_
            cases e with
            | returned v => exact he
            | panicked c => exact he.elim
            | outgrown => exact (NormalOnly.lets he).elim
          case row row args => exact ⟨fun e => (Bool.false_ne_true e).elim, rowsIn_round h⟩
        | halt x w' =>
          cases x <;> simp only [Oper.upon] at h
          case panic u => exact h.elim
      · exact (NormalOnly.lets h.2).elim
    · simp only [hw] at h ⊢
      exact ⟨fun _ _ => trivial, h⟩
theorem wpAnyIn_of_wpAny {md : Region.Mode} (hno : ∀ (i : Nat) (o : Oper), ops[i]? = some o → ∀ c : Call, o.op ≠ .defer c) : ∀ (fuel : Nat) (listed : Array Bool) (a : Act) (w : World),
    wpAny P md ops (NormalOnly Q) fuel listed a w → wpAnyIn (Fence.wide.inRound l) n P md ops Q fuel listed a w
  | 0, _, _, _, h => h
  | fuel + 1, _, _, _, h => ⟨h.1, fun i hi => wpOpIn_mono (fun a' w' h' => wpAnyIn_of_wpAny hno fuel _ a' w' h') (wpOpIn_of_wpOp (hno i) (h.2 i hi))⟩
/-- No operation of the region is a defer statement. -/
def noDefer (ops : List Oper) : Bool := ops.all fun o => match o.op with | .defer _ => false | _ => true
theorem noDefer_spec {os : List Oper} (h : noDefer os = true) (i : Nat) (o : Oper) (ho : os.toArray[i]? = some o) (c : Call) : o.op ≠ .defer c := fun e => by
  have hm : o ∈ os := by
    rw [List.getElem?_toArray] at ho
    exact List.mem_of_getElem? ho
  have := List.all_eq_true.1 h o hm
  rw [e] at this
  cases this
/-- **The beginning.** -/
theorem wpIn_round_held {os : List Oper} {id : Nat} {a : Act} {w : World} {S : World → Prop} (hm : P.follows .mixedOrders = true) (hno : noDefer os = true) (hS : S w.drew)
    (h : S w.drew → wpAnyH P .any os.toArray (NormalOnly Q) S os.toArray.size (Array.replicate os.toArray.size false) a w.drew) : (Code.region id os.toArray true).wpIn (Fence.wide.inRound l) n P Q a w :=
  wpIn_region_any hm (wpAnyIn_of_wpAny (noDefer_spec hno) _ _ _ _ (wpAny_of_held _ _ _ _ (h hS)))
end
theorem count_set_false : ∀ (l : List Bool) (i : Nat), l[i]? = some false → (l.set i true).count false + 1 = l.count false
  | [], i, h => by simp at h
  | b :: l, 0, h => by
    simp at h
    subst h
    simp
  | b :: l, i + 1, h => by
    have := count_set_false l i (by simpa using h)
    cases b <;> simp at this ⊢ <;> omega
section
variable {P : Program} {ops : Array Oper} {Q : Exit → Act → World → Prop} {md : Region.Mode}
/-- What holds at the beginning, and behind whichever operation comes next, holds at the end. -/
theorem wpAny_inv (I : Array Bool → Act → World → Prop)
    (hstep : ∀ (listed : Array Bool) (a : Act) (w : World), I listed a w → ∀ i ∈ Region.ready md ops listed, wpOp P ops Q i (fun a' w' => I (listed.setIfInBounds i true) a' w') a w)
    (hend : ∀ (listed : Array Bool) (a : Act) (w : World), I listed a w → Region.ready md ops listed = [] → Q .normal a w) :
    ∀ (fuel : Nat) (listed : Array Bool) (a : Act) (w : World), I listed a w → listed.toList.count false ≤ fuel → wpAny P md ops Q fuel listed a w
  | 0, listed, a, w, hI, hc => by
    have hr : Region.ready md ops listed = [] := by
      refine List.eq_nil_iff_forall_not_mem.2 fun j hj => ?_
      have h0 := (mem_ready.1 hj).1
      have hm : false ∈ listed.toList := by
        rw [Array.getD_eq_getD_getElem?] at h0
        cases hx : listed[j]? with
        | none => rw [hx] at h0; cases h0
        | some b =>
          rw [hx] at h0
          simp at h0
          subst h0
          exact Array.mem_toList_iff.2 (Array.mem_of_getElem? hx)
      have := List.count_pos_iff.2 hm
      omega
    exact ⟨hr, hend _ _ _ hI hr⟩
  | fuel + 1, listed, a, w, hI, hc => by
    refine ⟨fun hr => hend _ _ _ hI hr, fun i hi => wpOp_mono (fun a' w' h => ?_) (hstep listed a w hI i hi)⟩
    refine wpAny_inv I hstep hend fuel _ _ _ h ?_
    have h0 := (mem_ready.1 hi).1
    have hx : listed.toList[i]? = some false := by
      rw [Array.getD_eq_getD_getElem?] at h0
      cases hx : listed[i]? with
      | none => rw [hx] at h0; cases h0
      | some b => rw [hx] at h0; simp at h0; subst h0; rw [Array.getElem?_toList]; exact hx
    have := count_set_false _ _ hx
    rw [Array.toList_setIfInBounds]
    omega
theorem wp_region_inv {id : Nat} {a : Act} {w : World} (I : Array Bool → Act → World → Prop) (hm : P.follows .mixedOrders = true) (h0 : I (Array.replicate ops.size false) a w.drew)
    (hstep : ∀ (listed : Array Bool) (a : Act) (w : World), I listed a w → ∀ i ∈ Region.ready .any ops listed, wpOp P ops Q i (fun a' w' => I (listed.setIfInBounds i true) a' w') a w)
    (hend : ∀ (listed : Array Bool) (a : Act) (w : World), I listed a w → Region.ready .any ops listed = [] → Q .normal a w) : (Code.region id ops true).wp P Q a w :=
  wp_region_any hm (wpAny_inv I hstep hend _ _ _ _ h0 (by rw [Array.toList_replicate, List.count_replicate_self]; exact Nat.le_refl _))
end
/-- Each operation waits for earlier ones alone. -/
def lowDeps (os : List Oper) : Bool := (List.range os.length).all fun j => match os[j]? with | some o => o.after.all (fun e => decide (e.on < j)) | none => true
theorem getB_in {ls : Array Bool} {j : Nat} (h : j < ls.size) : ls.getD j true = ls.getD j false := by simp [h]
theorem all_listed {md : Region.Mode} {os : List Oper} (hl : lowDeps os = true) {ls : Array Bool} (hs : ls.size = os.length) (hr : Region.ready md os.toArray ls = []) (j : Nat) (hj : j < os.length) : ls.getD j false = true := by
  induction j using Nat.strongRecOn with
  | _ j ih =>
    cases h : ls.getD j false with
    | true => rfl
    | false =>
      have ho : os.toArray[j]? = some (os[j]'hj) := by rw [List.getElem?_toArray, List.getElem?_eq_getElem hj]
      have hm : j ∈ Region.ready md os.toArray ls := by
        refine mem_ready.2 ⟨by rw [getB_in (by omega)]; exact h, _, ho, fun e he _ => ?_⟩
        have h1 := List.all_eq_true.1 hl j (List.mem_range.2 hj)
        rw [List.getElem?_eq_getElem hj] at h1
        have h2 := of_decide_eq_true (Array.all_eq_true_iff_forall_mem.1 h1 e he)
        exact ih e.on h2 (by omega)
      rw [hr] at hm
      cases hm
theorem ready_dep {md : Region.Mode} {ops : Array Oper} {ls : Array Bool} {i : Nat} {o : Oper} (hi : i ∈ Region.ready md ops ls) (ho : ops[i]? = some o) (k : Nat) (hm : o.after.any (fun e => e.on == k && Region.binds md e) = true) : ls.getD k false = true := by
  obtain ⟨_, o', ho', hd⟩ := mem_ready.1 hi
  rw [ho] at ho'
  cases ho'
  obtain ⟨j, hj, h⟩ := Array.any_eq_true.1 hm
  rw [Bool.and_eq_true] at h
  have := hd _ (Array.getElem_mem hj) h.2
  rwa [eq_of_beq h.1] at this
end Go.Proofs.YtlhogjigdmpokaaGreatDoor.rfc
namespace Go.Proofs.YtlhogjigdmpokaaGreatDoor.vtc
open Go.RowKit Go.Proofs.YtlhogjigdmpokaaGreatDoor.tlvc Go.Proofs.YtlhogjigdmpokaaGreatDoor.tmc Go.Proofs.YtlhogjigdmpokaaGreatDoor.rfc
set_option linter.unusedVariables false
theorem below_drew (w : World) : Below w.heap.size w w.drew := ⟨rfl, rfl, rfl, Nat.le_refl _, fun _ _ => rfl⟩
theorem cell_on {W W' : World} {p : Addr} {v : Value} (hb : Below W.heap.size W W') (h : W.cell? p = some v) : W'.cell? p = some v := (hb.cell (block_lt_of_cell h)).trans h
theorem heap_on {W W' : World} {g : Nat} {o : Obj} (hb : Below W.heap.size W W') (h : W.heap[g]? = some o) : W'.heap[g]? = some o := (hb.block g (Array.getElem?_eq_some_iff.1 h).1).trans h
theorem cell_off {K : Nat → Tag} {W W' : World} {p : Addr} {v : Value} (hO : Off (fun g => K g ≠ .other) W W') (hk : K p.block = .other) (h : W.cell? p = some v) : W'.cell? p = some v :=
  (cell_same (hO.block _ (block_lt_of_cell h) (fun e => e hk))).trans h
theorem rise_len {l : List Int} (h : Rise l) {N : Nat} (hb : ∀ x ∈ l, 0 ≤ x ∧ x < (N : Int)) : l.length ≤ N := by
  have hi : ∀ i, i < l.length → (i : Int) ≤ l.getD i 0 := by
    intro i
    induction i with
    | zero =>
      intro h0
      have hm : l.getD 0 0 ∈ l := by rw [List.getD_eq_getElem?_getD, List.getElem?_eq_getElem h0]; exact List.getElem_mem h0
      exact (hb _ hm).1
    | succ i ih =>
      intro h1
      have := ih (by omega)
      have := rise_at h (show i < i + 1 by omega) h1
      omega
  by_cases h0 : l.length = 0
  · omega
  have h1 := hi (l.length - 1) (by omega)
  have hm : l.getD (l.length - 1) 0 ∈ l := by rw [List.getD_eq_getElem?_getD, List.getElem?_eq_getElem (by omega)]; exact List.getElem_mem (by omega)
  have := (hb _ hm).2
  omega
/-- These numbers lie there, in blocks that are no part of the search. -/
structure InsG (K : Nat → Tag) (W : World) (A : Option Addr) (c : Nat) (zs : List Int) : Prop where
  ins : Ins W A zs.length zs
  lc : zs.length ≤ c
  cm : c ≤ maxLen
  far : 0 < zs.length → ∀ g off, A = some ⟨g, off, none⟩ → K g = .other
section
variable {K K' : Nat → Tag} {W W' : World} {A : Option Addr} {c : Nat} {zs : List Int}
theorem InsG.below (h : InsG K W A c zs) (hb : Below W.heap.size W W') : InsG K W' A c zs := ⟨h.ins.below hb, h.lc, h.cm, h.far⟩
theorem InsG.lt (h : InsG K W A c zs) (hn : 0 < zs.length) {g off : Nat} (e : A = some ⟨g, off, none⟩) : g < W.heap.size := by
  obtain ⟨o, ho, _⟩ := ins_cells h.ins hn e
  exact (Array.getElem?_eq_some_iff.1 ho).1
theorem InsG.off (h : InsG K W A c zs) (hO : Off (fun g => K g ≠ .other) W W') (hK : ∀ g, g < W.heap.size → K g = .other → K' g = .other) : InsG K' W' A c zs :=
  ⟨ins_block h.ins hO.size fun hn g off e => hO.block g (h.lt hn e) (fun k => k (h.far hn g off e)), h.lc, h.cm, fun hn g off e => hK g (h.lt hn e) (h.far hn g off e)⟩
theorem InsG.of_new (hi : Ins W' A zs.length zs) (hc : zs.length ≤ c ∧ c ≤ maxLen) (hn : 0 < zs.length → ∀ g off, A = some ⟨g, off, none⟩ → W.heap.size ≤ g) (hK : ∀ g, W.heap.size ≤ g → K g = .other) : InsG K W' A c zs :=
  ⟨hi, hc.1, hc.2, fun h g off e => hK g (hn h g off e)⟩
theorem InsG.one {b : Nat} {x : Int} {T : TypeId} (h : W.heap[b]? = some (.cells #[.int .i64 x] T)) (hx : I64 x) (hK : K b = .other) : InsG K W (some ⟨b, 0, none⟩) 1 [x] := by
  refine ⟨⟨rfl, fun y hy => ?_, fun _ => ⟨b, 0, rfl, (Array.getElem?_eq_some_iff.1 h).1, fun i hi => ?_⟩⟩, Nat.le_refl _, by unfold maxLen; decide, fun _ g off e => by cases e; exact hK⟩
  · rw [List.mem_singleton.1 hy]; exact hx
  · have : i = 0 := by simp at hi; exact hi
    subst this
    exact (Lib.cell_of_heap h _).trans rfl
theorem InsG.two {b : Nat} {x y : Int} {T : TypeId} (h : W.heap[b]? = some (.cells #[.int .i64 x, .int .i64 y] T)) (hx : I64 x) (hy : I64 y) (hK : K b = .other) : InsG K W (some ⟨b, 0, none⟩) 2 [x, y] := by
  refine ⟨⟨rfl, fun z hz => ?_, fun _ => ⟨b, 0, rfl, (Array.getElem?_eq_some_iff.1 h).1, fun i hi => ?_⟩⟩, Nat.le_refl _, by unfold maxLen; decide, fun _ g off e => by cases e; exact hK⟩
  · rcases List.mem_cons.1 hz with rfl | hz
    · exact hx
    · rw [List.mem_singleton.1 hz]; exact hy
  · have hi2 : i < 2 := by simpa using hi
    rcases i with _ | _ | i
    · exact (Lib.cell_of_heap h _).trans rfl
    · exact (Lib.cell_of_heap h _).trans rfl
    · omega
end
section
variable {n0 sb hb tb rb : Nat} {N : Nat} {K : Nat → Tag} {PS : List Plc} {hd : List Bool} {AQ AQ' : Way → Prop} {c : Nat} {w w' w2 : World} {K' : Nat → Tag} {PS' : List Plc} {RJ RJ' : Nat → List Nat} {hd' : List Bool}
theorem add_grew (G : Grew n0 sb hb tb rb (List.replicate N false) N K PS hd AQ c w w' K' PS' RJ' hd') (hn0 : n0 ≤ w'.heap.size) (hP : PS'.length < 100000) {A B : Option Addr} {c1 c2 : Nat} {needs gives : List Int} (hx : InsG K' w' A c1 needs) (hy : InsG K' w' B c2 gives) (hpos : ∀ x ∈ needs, 0 ≤ x ∧ x < (N : Int)) (hfew : needs.length ≤ 10000) :
    Calls Tryz.prog 53 #[.pointer (some ⟨sb, 0, none⟩), .slice A needs.length c1, .slice B gives.length c2] w' fun e w2 => e = .returned (.tuple #[]) ∧ ∃ K2 PS2 RJ2 hd2, Grew n0 sb hb tb rb (List.replicate N false) N K PS hd (fun v => AQ v ∨ v = ⟨needs, gives⟩) (c + 1) w w2 K2 PS2 RJ2 hd2 ∧ (∀ g, g < w'.heap.size → K' g = .other → K2 g = .other) ∧ Off (fun g => K' g ≠ .other) w' w2 := by
  have htd : ∀ n, (List.replicate N false).getD n false = false := fun n => by
    rw [List.getD_eq_getElem?_getD, List.getElem?_replicate]
    split <;> rfl
  refine (add_any G.sch hn0 (by rw [G.len]; exact G.ok) hP htd A _ c1 B _ c2 needs gives hx.ins hx.lc hx.cm hx.far hy.ins hy.lc hy.cm hy.far (by rw [G.len]; exact hpos) hfew).mono ?_
  intro e w2 h
  have h0 := h
  obtain ⟨K2, PS2, RJ2, hd2, he, h1, h2, h3, h4, h5, h6, h7⟩ := h0
  refine ⟨he, K2, PS2, RJ2, hd2, ⟨h1, G.len ▸ h2, h3.trans G.len, by have := G.cnt; omega, fun AP hAP => ?_, fun g hg e => h6 g (Nat.lt_of_lt_of_le hg G.off.size) (G.tag g hg e), Off.trans G.off h7 (fun _ _ h => h) (fun g hg hne e => hne (G.tag g hg e))⟩, h6, h7⟩
  have := h5 (fun v => AP v ∨ AQ v) (by rw [G.len]; exact G.adds AP hAP)
  rw [G.len] at this
  exact this.same fun v => or_assoc
end
theorem base_iff {o : Int} {a b v : Way} : ((o ≠ 1 ∧ v = a) ∨ (o = 4 ∧ v = b)) ↔ v ∈ (if o ≠ 1 then [a] else []) ++ (if o = 4 then [b] else []) := by
  by_cases h1 : o = 1 <;> by_cases h4 : o = 4 <;> simp [h1, h4]
theorem map_put {W : World} {L : List Tm} (T : Tbl L) {b n k : Nat} {D : DataW Unit} {l : List Int} (h : W.ownsMap Tryz.prog 95 (plainElem Tryz.prog 3) b n D) (hn : n < maxLen) (hl : Fit8 l ∧ l.length ≤ 4) (hk : k ≤ 4096) : ∃ W2, (Instr.mapUpdate 86 (.map (some b)) (.agg (pkV l.length l)) (.int .i64 (k : Nat))).run Tryz.prog W = .ok () W2 ∧ W2.ownsMap Tryz.prog 95 (plainElem Tryz.prog 3) b (n + 1) (D.put (klP l) (.lit (.int .i64 k))) ∧ W.grownBy W2 (some b) :=
  h.update Tryz.lawPow Tryz.underlying86 hn (key_pk l hl.1 hl.2) (plainElem_int Tryz.underlying3 (WalkArith.wf_i64 (by omega)))
end Go.Proofs.YtlhogjigdmpokaaGreatDoor.vtc
namespace Go.Proofs.YtlhogjigdmpokaaGreatDoor.vtc
open Go.RowKit Go.Proofs.YtlhogjigdmpokaaGreatDoor.tlvc Go.Proofs.YtlhogjigdmpokaaGreatDoor.tmc Go.Proofs.YtlhogjigdmpokaaGreatDoor.rfc
set_option linter.unusedVariables false
/-- A row of truths, made. -/
def MB (w W : World) (N b : Nat) : Prop := W.heap[b]? = some (.cells (madeCells #[.bool false] N) 4) ∧ w.heap.size < b
def MR (w W : World) (N b : Nat) : Prop := W.heap[b]? = some (.cells (madeCells #[.slice none 0 0] N) 98) ∧ w.heap.size < b
def slN (b N : Nat) : Value := .slice (some ⟨b, 0, none⟩) N N
/-- What each operation leaves. -/
def XqF (w : World) (vb N : Nat) (u : Nat → Value) (W : World) : Nat → Prop
  | 0 => u 11 = .pointer (some ⟨vb, 0, none⟩)
  | 1 => u 12 = .int .i64 (N : Int)
  | 2 => ∃ b, u 13 = slN b N ∧ MB w W N b
  | 3 => u 14 = .pointer (some ⟨vb, 0, none⟩)
  | 4 => u 15 = .int .i64 (N : Int)
  | 5 => ∃ b, u 16 = slN b N ∧ MB w W N b
  | 6 => u 17 = .pointer (some ⟨vb, 0, none⟩)
  | 7 => u 18 = .int .i64 (N : Int)
  | 8 => ∃ b, u 19 = slN b N ∧ MR w W N b
  | 9 => ∃ hb tb rb, u 20 = .agg #[slN hb N, slN tb N, slN rb N] ∧ hb ≠ tb ∧ MB w W N hb ∧ MB w W N tb ∧ MR w W N rb
  | 10 => ∃ sb hb tb rb, u 21 = .pointer (some ⟨sb, 0, none⟩) ∧ W.heap[sb]? = some (.cells #[slN hb N, slN tb N, slN rb N] 72) ∧ w.heap.size < sb ∧ hb ≠ tb ∧ MB w W N hb ∧ MB w W N tb ∧ MR w W N rb
  | 11 => ∃ Bs v, u 3 = .pointer (some ⟨Bs, 0, none⟩) ∧ W.heap[Bs]? = some (.cells #[v] 62) ∧ w.heap.size < Bs
  | _ => True
def dstF (j : Nat) : Nat := if j = 11 then 3 else j + 11
section
variable {w W W' : World} {vb N : Nat} {u u' : Nat → Value}
theorem heap_up {g : Nat} {o : Obj} (hb : Below W.heap.size W W') (h : W.heap[g]? = some o) : W'.heap[g]? = some o := (hb.block g (Array.getElem?_eq_some_iff.1 h).1).trans h
theorem MB.up {b : Nat} (hb : Below W.heap.size W W') (h : MB w W N b) : MB w W' N b := ⟨heap_up hb h.1, h.2⟩
theorem MR.up {b : Nat} (hb : Below W.heap.size W W') (h : MR w W N b) : MR w W' N b := ⟨heap_up hb h.1, h.2⟩
theorem XqF.up (hb : Below W.heap.size W W') : ∀ j, u' (dstF j) = u (dstF j) → XqF w vb N u W j → XqF w vb N u' W' j
  | 0, e, h => e.trans h
  | 1, e, h => e.trans h
  | 2, e, ⟨b, h, m⟩ => ⟨b, e.trans h, m.up hb⟩
  | 3, e, h => e.trans h
  | 4, e, h => e.trans h
  | 5, e, ⟨b, h, m⟩ => ⟨b, e.trans h, m.up hb⟩
  | 6, e, h => e.trans h
  | 7, e, h => e.trans h
  | 8, e, ⟨b, h, m⟩ => ⟨b, e.trans h, m.up hb⟩
  | 9, e, ⟨hb', tb, rb, h, hne, m1, m2, m3⟩ => ⟨hb', tb, rb, e.trans h, hne, m1.up hb, m2.up hb, m3.up hb⟩
  | 10, e, ⟨sb, hb', tb, rb, h, hs, hl, hne, m1, m2, m3⟩ => ⟨sb, hb', tb, rb, e.trans h, heap_up hb hs, hl, hne, m1.up hb, m2.up hb, m3.up hb⟩
  | 11, e, ⟨Bs, v, h, hs, hl⟩ => ⟨Bs, v, e.trans h, heap_up hb hs, hl⟩
  | _ + 12, _, _ => trivial
/-- On the way. -/
structure XqI (w : World) (vb N : Nat) (ls : Array Bool) (u : Nat → Value) (W : World) : Prop where
  sz : ls.size = 13
  b1 : W.heap[w.heap.size]? = some (.cells #[.pointer (some ⟨vb, 0, none⟩)] 26)
  bel : Below w.heap.size w W
  f : ls.getD 12 false = false → ∀ j, j < 12 → ls.getD j false = true → XqF w vb N u W j
  ne : ls.getD 12 false = false → ls.getD 2 false = true → ls.getD 5 false = true → u 13 ≠ u 16
  e : ls.getD 12 false = true → (∃ Bs sb hb tb rb, u 3 = .pointer (some ⟨Bs, 0, none⟩) ∧ Made5 w vb N Bs sb hb tb rb W) ∧ ∀ j, j < 13 → ls.getD j false = true
theorem XqI.open12 {ls : Array Bool} (R : XqI w vb N ls u W) {i : Nat} (hi : i < 13) (h0 : ls.getD i true = false) : ls.getD 12 false = false := by
  cases h : ls.getD 12 false with
  | false => rfl
  | true =>
    have := (R.e h).2 i hi
    have h1 := getB_in (ls := ls) (j := i) (by rw [R.sz]; exact hi)
    rw [h0, this] at h1
    cases h1
theorem dstF_inj {i j : Nat} (hi : i < 12) (hj : j < 12) (h : dstF i = dstF j) : i = j := by
  unfold dstF at h
  split at h <;> split at h <;> omega
theorem XqI.next {ls : Array Bool} (R : XqI w vb N ls u W) {i : Nat} (hi : i < 12) (h0 : ls.getD i true = false) (hb : Below W.heap.size W W') (v : Value) (hf : XqF w vb N (fun s => if s = dstF i then v else u s) W' i)
    (h2 : i = 2 → ls.getD 5 false = true → v ≠ u 16) (h5 : i = 5 → ls.getD 2 false = true → u 13 ≠ v) : XqI w vb N (ls.setIfInBounds i true) (fun s => if s = dstF i then v else u s) W' := by
  have h12 := R.open12 (by omega) h0
  have e12 : (ls.setIfInBounds i true).getD 12 false = false := by rw [getD_set_ne false (by omega)]; exact h12
  have hu : ∀ s, s ≠ dstF i → (fun s => if s = dstF i then v else u s) s = u s := fun s hs => if_neg hs
  refine ⟨by rw [Array.size_setIfInBounds]; exact R.sz, heap_up hb R.b1, R.bel.trans (hb.mono R.bel.size), fun _ j hj hl => ?_, fun _ h2' h5' => ?_, fun h => by rw [e12] at h; cases h⟩
  · by_cases e : j = i
    · subst e; exact hf
    · rw [getD_set_ne false (Ne.symm e)] at hl
      exact XqF.up hb j (hu _ (fun h => e (dstF_inj hj hi h))) (R.f h12 j hj hl)
  · by_cases e2 : i = 2
    · subst e2
      rw [getD_set_ne false (by decide)] at h5'
      exact h2 rfl h5'
    · by_cases e5 : i = 5
      · subst e5
        rw [getD_set_ne false (by decide)] at h2'
        exact h5 rfl h2'
      · rw [getD_set_ne false e2] at h2'
        rw [getD_set_ne false e5] at h5'
        have a1 : (fun s => if s = dstF i then v else u s) 13 = u 13 := hu 13 (fun h => by unfold dstF at h; split at h <;> omega)
        have a2 : (fun s => if s = dstF i then v else u s) 16 = u 16 := hu 16 (fun h => by unfold dstF at h; split at h <;> omega)
        exact fun h => R.ne h12 h2' h5' (a1.symm.trans (h.trans a2))
end
end Go.Proofs.YtlhogjigdmpokaaGreatDoor.vtc
namespace Go.Proofs.YtlhogjigdmpokaaGreatDoor.vtc
open Go.RowKit Go.Proofs.YtlhogjigdmpokaaGreatDoor.tlvc Go.Proofs.YtlhogjigdmpokaaGreatDoor.tmc Go.Proofs.YtlhogjigdmpokaaGreatDoor.rfc
set_option linter.unusedVariables false
section
variable {n0 sb hb tb rb : Nat} {td : List Bool} {N : Nat} {K : Nat → Tag} {PS : List Plc} {hd : List Bool} {AQ AQ' : Way → Prop} {c : Nat} {w w' w2 : World} {K' : Nat → Tag} {PS' : List Plc} {RJ RJ' : Nat → List Nat} {hd' : List Bool}
theorem Grew.free (h : Grew n0 sb hb tb rb td N K PS hd AQ c w w' K' PS' RJ' hd') {g : Nat} {o : Obj} (hg : w'.heap[g]? = some o) (ho : o.isCells = false) : K' g = .other :=
  Classical.byContradiction fun hne => by have := h.sch.cell g o hne hg; rw [ho] at this; cases this
theorem Grew.grown (h : Grew n0 sb hb tb rb td N K PS hd AQ c w w' K' PS' RJ' hd') {row : Option Nat} (hg : w'.grownBy w2 row) (hr : ∀ r, row = some r → w.heap.size ≤ r ∧ ∃ o : Obj, w'.heap[r]? = some o ∧ o.isCells = false) : Grew n0 sb hb tb rb td N K PS hd AQ c w w2 K' PS' RJ' hd' :=
  ⟨h.sch.grown hg fun r e => ⟨by obtain ⟨_, o, ho, hoc⟩ := hr r e; exact h.free ho hoc, (hr r e).2⟩, h.ok, h.len, h.cnt, h.adds, h.tag, ⟨hg.os.trans h.off.os, hg.tape.trans h.off.tape, hg.output.trans h.off.output, Nat.le_trans h.off.size hg.size, fun i hi hn => (hg.block i (Nat.lt_of_lt_of_le hi h.off.size) (fun e => by have := (hr i e.symm).1; omega)).trans (h.off.block i hi hn)⟩⟩
end
theorem same_self (l : List Int) : (klP l).sameKey (klP l) = true := by
  unfold klP
  simp [Lit.sameKey]
/-- What has been added, of the powers that are no longer to come. -/
def gonePow (L : List Tm) (left : Lit → Bool) (v : Way) : Prop := ∃ l m, PwK L L.length l m ∧ left (klP l) = false ∧ ∃ c, PowW L m c v
theorem gone_step {L : List Tm} (T : Tbl L) {left : Lit → Bool} {l : List Int} {m : Nat} (h : PwK L L.length l m) (v : Way) : (gonePow L left v ∨ ∃ c, PowW L m c v) ↔ gonePow L (fun z => left z && !z.sameKey (klP l)) v := by
  have hl := h.2.fits T
  constructor
  · rintro (⟨l', m', h1, h2, h3⟩ | hc)
    · exact ⟨l', m', h1, by simp [h2], h3⟩
    · exact ⟨l, m, h, by simp [same_self], hc⟩
  · rintro ⟨l', m', h1, h2, h3⟩
    cases hx : left (klP l') with
    | false => exact .inl ⟨l', m', h1, hx, h3⟩
    | true =>
      have h2 : (left (klP l') && !(klP l').sameKey (klP l)) = false := h2
      rw [hx] at h2
      have e : klP l' = klP l := Classical.byContradiction fun hne => by
        rw [Maps.sameKey_ne hne] at h2
        cases h2
      have hl' := h1.2.fits T
      obtain rfl := klP_inj hl'.1 hl'.2 hl.1 hl.2 e
      rw [PwI.one T h1.2 h.2] at h3
      exact .inr h3
theorem gone_none {L : List Tm} {D : DataW Unit} (hD : PMap D L L.length) (v : Way) : ¬ gonePow L (Maps.has D) v := fun ⟨l, m, h1, h2, _⟩ => by
  rw [(hD.has l m h1).1] at h2
  cases h2
theorem gone_all {L : List Tm} {left : Lit → Bool} (h : ∀ kl, left kl = false) (v : Way) : gonePow L left v ↔ ∃ n c, PowW L n c v := by
  constructor
  · rintro ⟨l, m, _, _, c, hc⟩
    exact ⟨m, c, hc⟩
  · rintro ⟨n, c, hc⟩
    have hc0 := hc
    obtain ⟨mm, d, ks, m, hn, _⟩ := hc0
    exact ⟨kidsN L ks, n, ⟨(Array.getElem?_eq_some_iff.1 (by rw [List.getElem?_toArray]; exact hn)).1, mm, d, ks, hn, rfl⟩, h _, c, hc⟩
theorem ranges_same {H : Type} {w w' : World} {P : Program} {k : TypeId} {R : Value → Option (DataW H × List MemPlace)} {b r n : Nat} {D : DataW H} {left : Lit → Bool} {cnt : Nat} (h : w.ranges P k R b r n D left cnt) (hb : w'.heap[b]? = w.heap[b]?) (hr : w'.heap[r]? = w.heap[r]?) : w'.ranges P k R b r n D left cnt := by
  obtain ⟨es, clock, since, seen, c0, h1, F, hs, hD, h2, rest⟩ := h
  exact ⟨es, clock, since, seen, c0, hb.trans h1, F, hs, hD, hr.trans h2, rest⟩
theorem ranges_obj {H : Type} {w : World} {P : Program} {k : TypeId} {R : Value → Option (DataW H × List MemPlace)} {b r n : Nat} {D : DataW H} {left : Lit → Bool} {cnt : Nat} (h : w.ranges P k R b r n D left cnt) : (∃ o : Obj, w.heap[b]? = some o ∧ o.isCells = false) ∧ ∃ o : Obj, w.heap[r]? = some o ∧ o.isCells = false := by
  obtain ⟨es, clock, since, seen, c0, h1, F, hs, hD, h2, rest⟩ := h
  exact ⟨⟨_, h1, rfl⟩, _, h2, rfl⟩
theorem ins_pk {w : World} {pb : Nat} {l : List Int} {T : TypeId} (h : w.heap[pb]? = some (.cells (pkV l.length l) T)) (hf : Fit8 l) (hl : l.length ≤ 4) : Ins w (some ⟨pb, 1, none⟩) l.length l := by
  refine ⟨rfl, hf, fun _ => ⟨pb, 1, rfl, (Array.getElem?_eq_some_iff.1 h).1, fun i hi => ?_⟩⟩
  rcases (show i = 0 ∨ i = 1 ∨ i = 2 ∨ i = 3 by omega) with rfl | rfl | rfl | rfl <;> exact (Lib.cell_of_heap h _).trans rfl
section
variable {P : Program} (w : World) {ops : Array Oper} {rest : List Oper} {o : Oper} {a : Act} {Q : Exit → Act → World → Prop}
theorem wpl_next_pow {L : List Tm} (T : Tbl L) (hg : o.guard = none) (it : Operand) (hop : o.op = Op.next it false) (b r n : Nat) (D : DataW Unit) (left : Lit → Bool) (cnt : Nat) (hit : a.eval it = .pointer (some ⟨r, 0, none⟩))
    (h : w.ranges Tryz.prog 95 (plainElem Tryz.prog 3) b r n D left cnt) (hsub : ∀ kl, left kl = true → Maps.has D kl = true) (hD : PMap D L L.length)
    (hDone : cnt = 0 → (∀ kl, left kl = false) → wpList Tryz.prog ops Q rest (a.put o.dst (.tuple #[.bool false])) w)
    (hMore : ∀ (l : List Int) (m : Nat) (w' : World) (cnt' : Nat), PwK L L.length l m → w'.ranges Tryz.prog 95 (plainElem Tryz.prog 3) b r n D (fun z => left z && !z.sameKey (klP l)) cnt' → cnt' < cnt →
      w.grownBy w' (some r) → w'.heap.size = w.heap.size → (Instr.entry (.pointer (some ⟨r, 0, none⟩))).run Tryz.prog w' = .ok (.tuple #[.agg (pkV l.length l), .int .i64 (m : Nat)]) w' → wpList Tryz.prog ops Q rest (a.put o.dst (.tuple #[.bool true, .agg (pkV l.length l), .int .i64 (m : Nat)])) w') :
    wpList Tryz.prog ops Q (o :: rest) a w := by
  refine wpList_plain hg fun K' hK' => ?_
  unfold Oper.wp
  rcases h.next Tryz.lawPow o.type with ⟨h0, hl, hrun⟩ | ⟨key, v, kl, y, w', cnt', hkey, hlk, hv, hat, hrun, hrg, hlt, hgr, hsz, hen⟩
  · simp [execOp, hop, hit, hrun, Result.andThen]
    exact hK' _ _ (hDone h0 hl)
  · obtain ⟨l, m, h1, rfl⟩ := hD.only kl (hsub kl hlk)
    have hl := h1.2.fits T
    obtain rfl := Tryz.lawPow.inj hkey (key_pk l hl.1 hl.2)
    obtain ⟨c, rfl, rfl, _⟩ := plainElem_int_inv Tryz.underlying3 hv
    have hc := hat (.lit (.int .i64 0))
    rw [(hD.has l m h1).2] at hc
    simp at hc
    subst hc
    simp [execOp, hop, hit, hrun, Result.andThen]
    exact hK' _ _ (hMore l m w' cnt' h1 hrg hlt hgr hsz hen)
end
/-- The search has been read. -/
structure RdEnd (w : World) (L : List Tm) (sb hb tb rb : Nat) (K : Nat → Tag) (PS : List Plc) (RJ : Nat → List Nat) (hd : List Bool) (W : World) : Prop where
  sch : Sch w.heap.size K W sb hb tb rb hd (List.replicate L.length false) (lkT (List.replicate L.length false) (PS.map Plc.way)) RJ PS
  ok : WOk L.length RJ PS
  len : hd.length = L.length
  few : PS.length ≤ 90000
  adds : Adds L.length (AllW L) (PS.map Plc.way) hd
  bel : Below w.heap.size w W
theorem RdEnd.own (w : World) (L : List Tm) (sb hb tb rb : Nat) (K : Nat → Tag) (PS : List Plc) (RJ : Nat → List Nat) (hd : List Bool) : OwnFrom w.heap.size (fun (_ : Unit) => RdEnd w L sb hb tb rb K PS RJ hd) := by
  intro γ A A' row h hg hr
  refine ⟨h.sch.grown hg fun r e => ?_, h.ok, h.len, h.few, h.adds, h.bel.grown hg h.bel.size (fun r e => (hr r e).1)⟩
  obtain ⟨_, o, ho, hoc⟩ := hr r e
  exact ⟨Classical.byContradiction fun hne => (by have := h.sch.cell r o hne ho; rw [hoc] at this; cases this), o, ho, hoc⟩
end Go.Proofs.YtlhogjigdmpokaaGreatDoor.vtc
