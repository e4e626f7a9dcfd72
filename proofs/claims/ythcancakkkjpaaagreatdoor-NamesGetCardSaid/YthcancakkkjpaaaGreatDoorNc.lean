/- The reader at a compound value. What comes up from below as a panic, caught: caught and its deferred closure. The reader, whatever the bytes; Parse. -/
import Derived.Test.YthcancakkkjpaaaGreatDoorNb
import Derived.Test.YthcancakkkjpaaaGreatDoorKa
import Derived.Test.YthcancakkkjpaaaGreatDoorProg
import Derived.Tactics
import Derived.Tactics2
import Derived.Defers
import Derived.Recover
import Derived.Laws.Pointers
import Derived.Lib.Hide
import Derived.Lib.Builder
namespace Go.Proofs.YthcancakkkjpaaaGreatDoor.ndc
open Go.RowKit Go.Proofs.YthcancakkkjpaaaGreatDoor.tlvc Go.Proofs.YthcancakkkjpaaaGreatDoor.tlvd Go.Proofs.YthcancakkkjpaaaGreatDoor.txc
set_option linter.unusedVariables false
set_option linter.unusedSimpArgs false
theorem readF_next : ∀ (d outer : Nat) (xs : List Int) (at_ : Nat) (n : Nd) (nx : Nat), Fit xs → at_ ≤ xs.length → readF d outer xs at_ = .ok n nx → at_ + 2 ≤ nx ∧ nx ≤ xs.length
  | 0, _, _, _, _, _, _, _, h => by unfold readF at h; cases h
  | d + 1, outer, xs, at_, n, nx, hf, hat, h => by
    unfold readF at h
    simp only at h
    split at h
    · cases h
    · rename_i hh
      have hh : (headF (xs.drop at_)).1 = 0 := by simpa using hh
      obtain ⟨t, F, T, hs, eF, eT, et⟩ := spot_of hf hat hh
      rw [← eF, ← eT, ← et] at h
      have := hs.lo; have := hs.mid; have := hs.hi
      split at h
      · cases h
      · split at h
        · cases h; omega
        · split at h
          · cases h
          · split at h
            · cases h
            · cases h; omega
/-- What a compound value's kids come to. -/
def resF (r : RL) (T : Nat) (t : Int) (at_ : Nat) : RR :=
  match r with
  | .bad a e => .bad a e
  | .ok k => if t = 49 ∧ k.falls = true then .bad at_ 42 else .ok (.mk t [] k.kids) T
def kidsF (rec : Nat → RR) (ys : List Int) (F T : Nat) (t : Int) (at_ : Nat) : RR := resF (readL rec ys (T - F) F rk0) T t at_
theorem readL_end {rec : Nat → RR} {ys : List Int} {f : Nat} {k : RK} (h : True) : readL rec ys f ys.length k = .ok k := by
  cases f with
  | zero => rfl
  | succ f => unfold readL; rw [if_neg (by omega)]
theorem readL_bad {rec : Nat → RR} {ys : List Int} {f next : Nat} {k : RK} {a e : Int} (h : next < ys.length) (hr : rec next = .bad a e) : readL rec ys (f + 1) next k = .bad a e := by
  conv => lhs; unfold readL
  rw [if_pos h, hr]
theorem readL_ok {rec : Nat → RR} {ys : List Int} {f next nx : Nat} {k : RK} {n : Nd} (h : next < ys.length) (hr : rec next = .ok n nx) : readL rec ys (f + 1) next k = readL rec ys f nx (k.add n ((ys.take nx).drop next)) := by
  conv => lhs; unfold readL
  rw [if_pos h, hr]
theorem NdC.shape {S : Nat → Prop} {w : World} {n : Nd} {c0 c1 c2 : Value} (h : NdC S w n c0 c1 c2) : ∃ t A la ca K lk ck, c0 = .int .u8 t ∧ c1 = .slice A la ca ∧ c2 = .slice K lk ck := by
  obtain ⟨t, b, ks⟩ := n
  unfold NdC at h
  obtain ⟨rfl, _, ⟨A, la, ca, rfl, _⟩, K, ck, rfl, _⟩ := h
  exact ⟨_, _, _, _, _, _, _, rfl, rfl, rfl⟩
/-- The end: the node is laid where the result stands. -/
theorem comp_end {w wr : World} {nb rb base : Nat} {t : Int} {k : RK} (h : Inv w nb rb base t k wr) (htag : 0 ≤ t ∧ t ≤ 255) (hP : w.heap.size < nb) (hb : nb < base) {v : Value} {cs : List Value} (hown : wr.ownsRow base 25 3 v k.kids.length cs) (htr : Trips (Free (w.heap.size + 1) wr.heap.size nb rb v.ownBlock) wr k.kids cs) :
    ∃ W4, (((wr.setCell ⟨w.heap.size, 0, none⟩ (.int .u8 t)).setCell ⟨w.heap.size, 1, none⟩ (.slice none 0 0)).setCell ⟨w.heap.size, 2, none⟩ v) = W4 ∧ W4.cell? ⟨w.heap.size, 0, none⟩ = some (.int .u8 t) ∧ W4.cell? ⟨w.heap.size, 1, none⟩ = some (.slice none 0 0) ∧ W4.cell? ⟨w.heap.size, 2, none⟩ = some v ∧ Below w.heap.size w W4 ∧ NdV (fun g => w.heap.size ≤ g) W4 (.mk t [] k.kids) (.agg #[.int .u8 t, .slice none 0 0, v]) := by
  have d0 : wr.cell? ⟨w.heap.size, 0, none⟩ = some (.int .u8 0) := by rw [Lib.cell_of_heap h.res]; rfl
  have d1 : wr.cell? ⟨w.heap.size, 1, none⟩ = some (.slice none 0 0) := by rw [Lib.cell_of_heap h.res]; rfl
  have d2 : wr.cell? ⟨w.heap.size, 2, none⟩ = some (.slice none 0 0) := by rw [Lib.cell_of_heap h.res]; rfl
  obtain ⟨r0, r1, r2, hbl, hk⟩ := three_set wr w.heap.size w.heap.size _ _ _ (.int .u8 t) (.slice none 0 0) v (Nat.le_refl _) d0 d1 d2
  refine ⟨_, rfl, r0, r1, r2, h.bel.trans hbl, _, _, _, rfl, ?_⟩
  have hst : Stays (Free (w.heap.size + 1) wr.heap.size nb rb v.ownBlock) wr (((wr.setCell ⟨w.heap.size, 0, none⟩ (.int .u8 t)).setCell ⟨w.heap.size, 1, none⟩ (.slice none 0 0)).setCell ⟨w.heap.size, 2, none⟩ v) :=
    ⟨hbl.size, fun p hp _ => hk p (by have := hp.1; omega)⟩
  have ht2 := (htr.stays hst).mono (S' := fun g => w.heap.size ≤ g) fun g hg => by have := hg.1; omega
  unfold NdC
  refine ⟨rfl, htag, ⟨none, 0, 0, rfl, Nat.le_refl _, Nat.zero_le _, Bys.nil_ _ _, fun h => absurd h (by omega)⟩, ?_⟩
  rcases hown.2 with ⟨rfl, hn⟩ | ⟨g, cap, cur, hve, hbg, hg, hnc, hcm, hcs, htake⟩
  · exact ⟨none, 0, by rw [hn], by omega, Nat.zero_le _, fun h => absurd h (by omega)⟩
  · subst hve
    refine ⟨some ⟨g, 0, none⟩, cap, rfl, hnc, hcm, fun _ => ⟨g, 0, rfl, ?_, by omega, Trips.kids ht2 fun j u hu => ?_⟩⟩
    · have := (Array.getElem?_eq_some_iff.1 hg).1
      have := hbl.size
      omega
    · rw [hk ⟨g, 0 + j, none⟩ (by show g ≠ _; omega)]
      have := hown.cells (g := g) rfl j u hu
      rwa [Addr.add_lit] at this
end Go.Proofs.YthcancakkkjpaaaGreatDoor.ndc
namespace Go.Proofs.YthcancakkkjpaaaGreatDoor.ndc
open Go.RowKit Go.Proofs.YthcancakkkjpaaaGreatDoor.tlvc
set_option linter.unusedVariables false
/-- A panic on its way up. -/
def Up (v : Value) : List PanicEntry := [{ v := v, recovered := false }]
theorem heap_old (w : World) (o : Obj) {k : Nat} (h : k < w.heap.size) : (w.alloc o).heap[k]? = w.heap[k]? := by show (w.heap.push o)[k]? = _; rw [Array.getElem?_push_lt h]; exact (Array.getElem?_eq_getElem h).symm
theorem heap_new (w : World) (o : Obj) : (w.alloc o).heap[w.heap.size]? = some o := by show (w.heap.push o)[w.heap.size]? = _; simp
theorem heap_at (w : World) (o : Obj) (k : Nat) (h : k = w.heap.size) : (w.alloc o).heap[k]? = some o := by subst h; exact heap_new w o
theorem ta_errno (er : Int) (w : World) : (Instr.typeAssert (.iface 30 (.int .i64 er)) 20 30 true).run Tryz.prog w = .ok (.tuple #[.int .i64 er, .bool true]) w := by
  simp [Instr.typeAssert, run_underlying Tryz.underlying30]
theorem ta_fault_no (v : Value) (w : World) : (Instr.typeAssert (.iface 119 v) 20 30 true).run Tryz.prog w = .ok (.tuple #[.int .i64 0, .bool false]) w := by
  simp [Instr.typeAssert, run_underlying Tryz.underlying30, Tryz.zeroValue30]
theorem ta_fault (v : Value) (w : World) : (Instr.typeAssert (.iface 119 v) 20 119 true).run Tryz.prog w = .ok (.tuple #[v, .bool true]) w := by
  simp [Instr.typeAssert, run_underlying Tryz.underlying119]
theorem ta_nil_no (w : World) : (Instr.typeAssert .nilIface 20 30 true).run Tryz.prog w = .ok (.tuple #[.int .i64 0, .bool false]) w := by
  simp [Instr.typeAssert, run_underlying Tryz.underlying30, Tryz.zeroValue30]
theorem ta_nil_no2 (w : World) : (Instr.typeAssert .nilIface 20 119 true).run Tryz.prog w = .ok (.tuple #[.agg #[.int .i64 0, .int .i64 0], .bool false]) w := by
  simp [Instr.typeAssert, run_underlying Tryz.underlying119, Tryz.zeroValue119]
set_option maxRecDepth 100000 in
set_option maxHeartbeats 1000000 in
theorem catch_errno (p q : Addr) (x y er : Int) (older : List PanicEntry) (w : World) (hc : w.cell? p = some (.int .i64 x)) (hz : w.frozen? p = false) :
    CallsD Tryz.prog 72 #[.pointer (some p), .pointer (some q)] (.panicking ({ v := .iface 30 (.int .i64 er), recovered := false } :: older)) w fun e u' w' =>
      e = .returned (.tuple #[]) ∧ u' = .panicking ({ v := .iface 30 (.int .i64 er), recovered := true } :: older) ∧ w' = w.setCell p (.int .i64 er) := by
  refine callsD_of_wpS Tryz.func72 rfl fun c₀ cs hu => ?_
  apply wpS_seq
  apply wpS_region
  simp [wpOpsS, go_sem, recoverD, hu, Tryz.ntmps72, Exit.thenS]
  refine wpS_of_wp ?_
  have ha := ta_errno er w
  change Code.wp _ _ _ { tmps := #[.pointer (some p), .pointer (some q), undef, undef, .iface 30 (.int .i64 er), undef, undef, undef, undef, undef, undef, undef, undef, undef, undef, undef], defers := [] } w
  go_wp2
  exact ⟨rfl, _, rfl, .tuple #[], by simp [results, Tryz.results72], rfl, rfl, rfl⟩
set_option maxRecDepth 100000 in
set_option maxHeartbeats 1000000 in
theorem catch_idle (p q : Addr) (w : World) :
    CallsD Tryz.prog 72 #[.pointer (some p), .pointer (some q)] .returning w fun e u' w' => e = .returned (.tuple #[]) ∧ u' = .returning ∧ w' = w := by
  refine callsD_of_wpS Tryz.func72 rfl fun c₀ cs hu => ?_
  apply wpS_seq
  apply wpS_region
  simp [wpOpsS, go_sem, recoverD, hu, Tryz.ntmps72, Exit.thenS]
  refine wpS_of_wp ?_
  have ha := ta_nil_no w
  have hb := ta_nil_no2 w
  change Code.wp _ _ _ { tmps := #[.pointer (some p), .pointer (some q), undef, undef, .nilIface, undef, undef, undef, undef, undef, undef, undef, undef, undef, undef, undef], defers := [] } w
  go_wp2
  cases c₀
  simp only at hu
  subst hu
  exact ⟨rfl, _, rfl, .tuple #[], by simp [results, Tryz.results72], rfl, rfl, rfl⟩
set_option maxRecDepth 100000 in
set_option maxHeartbeats 4000000 in
theorem catch_fault (P Q B : Nat) (x y at_ er : Int) (older : List PanicEntry) (w : World) (hne : ¬ P = Q) (hP : B ≤ P) (hQ : B ≤ Q) (hPw : P < w.heap.size) (hQw : Q < w.heap.size)
    (hc : w.cell? ⟨P, 0, none⟩ = some (.int .i64 x)) (hd : w.cell? ⟨Q, 0, none⟩ = some (.int .i64 y)) (hz : w.frozen? ⟨P, 0, none⟩ = false) (hy : w.frozen? ⟨Q, 0, none⟩ = false) :
    CallsD Tryz.prog 72 #[.pointer (some ⟨P, 0, none⟩), .pointer (some ⟨Q, 0, none⟩)] (.panicking ({ v := .iface 119 (.agg #[.int .i64 at_, .int .i64 er]), recovered := false } :: older)) w fun e u' w' =>
      e = .returned (.tuple #[]) ∧ u' = .panicking ({ v := .iface 119 (.agg #[.int .i64 at_, .int .i64 er]), recovered := true } :: older) ∧ Below B w w' ∧ w'.cell? ⟨P, 0, none⟩ = some (.int .i64 er) ∧ w'.cell? ⟨Q, 0, none⟩ = some (.int .i64 at_) := by
  refine callsD_of_wpS Tryz.func72 rfl fun c₀ cs hu => ?_
  apply wpS_seq
  apply wpS_region
  simp [wpOpsS, go_sem, recoverD, hu, Tryz.ntmps72, Exit.thenS]
  refine wpS_of_wp ?_
  have ha := ta_fault_no (.agg #[.int .i64 at_, .int .i64 er]) w
  have hb := ta_fault (.agg #[.int .i64 at_, .int .i64 er]) w
  change Code.wp _ _ _ { tmps := #[.pointer (some ⟨P, 0, none⟩), .pointer (some ⟨Q, 0, none⟩), undef, undef, .iface 119 (.agg #[.int .i64 at_, .int .i64 er]), undef, undef, undef, undef, undef, undef, undef, undef, undef, undef, undef], defers := [] } w
  go_wp2
  go_region
  go_wp2
  refine ⟨rfl, _, rfl, .tuple #[], by simp [results, Tryz.results72], rfl, rfl, ?_, ?_, ?_⟩
  · exact ((((Below.refl B w).setCell hQ _).setCell hP _).alloc (by simp [World.setCell]; omega) _).drew
  · show World.cell? (World.alloc _ _) _ = _
    rw [World.cell?_alloc_lt _ _ _ (by simpa [World.setCell] using hPw)]
    exact World.cell?_setCell_same _ _ _ (u := .int .i64 x) (by rw [World.cell?_setCell_other _ _ _ _ (by intro hh; injection hh with h1 _; exact hne h1.symm)]; exact hc)
  · show World.cell? (World.alloc _ _) _ = _
    rw [World.cell?_alloc_lt _ _ _ (by simpa [World.setCell] using hQw), World.cell?_setCell_other _ _ _ _ (by intro hh; injection hh with h1 _; exact hne h1)]
    exact World.cell?_setCell_same _ _ _ hd
/-! ### caught -/
set_option maxRecDepth 100000 in
set_option maxHeartbeats 4000000 in
/-- What is done goes well: no error. -/
theorem caught_ok (f : FuncId) (cap : Array Value) (w : World) (R : World → Prop)
    (hent : ∀ args w, (callFunc f args).run Tryz.prog w = .ok (.enter f args) w)
    (h : ∀ W, Below w.heap.size w W → w.heap.size + 2 ≤ W.heap.size → Calls Tryz.prog f cap W fun e w' => e = .returned (.tuple #[]) ∧ R w' ∧ W.heap.size ≤ w'.heap.size ∧ (∀ g, w.heap.size ≤ g → g < w.heap.size + 2 → w'.heap[g]? = W.heap[g]?)) :
    Calls Tryz.prog 67 #[.func (.func f) #[] cap] w fun e w' => e = .returned (.tuple #[.int .i64 0, .int .i64 0]) ∧ ∃ w3, R w3 ∧ w.heap.size + 2 ≤ w3.heap.size ∧ Below w.heap.size w3 w' ∧ ∀ p : Addr, w.heap.size + 2 ≤ p.block → w'.cell? p = w3.cell? p := by
  have hmf : ∀ (fn : Fn) (first cap : Array Value) (w : World), (Instr.makeFunc fn first cap).run Tryz.prog w = .ok (.func fn first cap) w := fun _ _ _ _ => rfl
  go_enter_defers Tryz.func67, Tryz.ntmps67
  go_wp2_with fail
  have hb2 : Below w.heap.size w ((w.alloc (.cells #[.int .i64 0] 3)).alloc (.cells #[.int .i64 0] 30)) := ((Below.refl _ _).alloc (Nat.le_refl _) _).alloc (by simp) _
  have hs2 : ((w.alloc (.cells #[.int .i64 0] 3)).alloc (.cells #[.int .i64 0] 30)).heap.size = w.heap.size + 2 := by simp
  have b0 : ((w.alloc (.cells #[.int .i64 0] 3)).alloc (.cells #[.int .i64 0] 30)).heap[w.heap.size]? = some (.cells #[.int .i64 0] 3) := by rw [heap_old _ _ (by simp)]; exact heap_new _ _
  have b1 : ((w.alloc (.cells #[.int .i64 0] 3)).alloc (.cells #[.int .i64 0] 30)).heap[w.heap.size + 1]? = some (.cells #[.int .i64 0] 30) := heap_at _ _ _ (by simp)
  refine (h _ hb2 (by omega)).mono ?_
  rintro e w3 ⟨rfl, hR, hsz, hk⟩
  have k0 := (hk w.heap.size (Nat.le_refl _) (by omega)).trans b0
  have k1 := (hk (w.heap.size + 1) (by omega) (by omega)).trans b1
  have h3 : w.heap.size + 2 ≤ w3.heap.size := by omega
  have c0 : w3.cell? ⟨w.heap.size, 0, none⟩ = some (.int .i64 0) := by rw [Lib.cell_of_heap k0]; rfl
  have c1 : w3.cell? ⟨w.heap.size + 1, 0, none⟩ = some (.int .i64 0) := by rw [Lib.cell_of_heap k1]; rfl
  have f0 : w3.frozen? ⟨w.heap.size, 0, none⟩ = false := by unfold World.frozen?; rw [k0]; rfl
  have f1 : w3.frozen? ⟨w.heap.size + 1, 0, none⟩ = false := by unfold World.frozen?; rw [k1]; rfl
  clear h hb2 hs2 b0 b1 hk k0 k1 hsz
  go_wp2
  have hB : Below w.heap.size w3 ((w3.setCell ⟨w.heap.size, 0, none⟩ (.int .i64 0)).setCell ⟨w.heap.size + 1, 0, none⟩ (.int .i64 0)) := ((Below.refl w.heap.size w3).setCell (show w.heap.size ≤ (⟨w.heap.size, 0, none⟩ : Addr).block from Nat.le_refl _) _).setCell (show w.heap.size ≤ (⟨w.heap.size + 1, 0, none⟩ : Addr).block from Nat.le_succ _) _
  have d0 : ((w3.setCell ⟨w.heap.size, 0, none⟩ (.int .i64 0)).setCell ⟨w.heap.size + 1, 0, none⟩ (.int .i64 0)).cell? ⟨w.heap.size, 0, none⟩ = some (.int .i64 0) := by
    rw [World.cell?_setCell_other _ _ _ _ (by intro hh; injection hh with h1 _; omega)]
    exact World.cell?_setCell_same _ _ _ c0
  have d1 : ((w3.setCell ⟨w.heap.size, 0, none⟩ (.int .i64 0)).setCell ⟨w.heap.size + 1, 0, none⟩ (.int .i64 0)).cell? ⟨w.heap.size + 1, 0, none⟩ = some (.int .i64 0) :=
    World.cell?_setCell_same _ _ _ (u := .int .i64 0) (by rw [World.cell?_setCell_other _ _ _ _ (by intro hh; injection hh with h1 _; omega)]; exact c1)
  have hfar : ∀ p : Addr, w.heap.size + 2 ≤ p.block → ((w3.setCell ⟨w.heap.size, 0, none⟩ (.int .i64 0)).setCell ⟨w.heap.size + 1, 0, none⟩ (.int .i64 0)).cell? p = w3.cell? p := fun p hp => by
    rw [World.cell?_setCell_other _ _ _ _ (by intro hh; rw [← hh] at hp; simp at hp; try omega), World.cell?_setCell_other _ _ _ _ (by intro hh; rw [← hh] at hp; simp at hp; try omega)]
  generalize (w3.setCell ⟨w.heap.size, 0, none⟩ (.int .i64 0)).setCell ⟨w.heap.size + 1, 0, none⟩ (.int .i64 0) = w4 at hB d0 d1 hfar ⊢
  refine leaves_cons (f := 72) (args := #[.pointer (some ⟨w.heap.size + 1, 0, none⟩), .pointer (some ⟨w.heap.size, 0, none⟩)]) (by simp) (by simp [go_sem]) ?_
  refine (catch_idle _ _ _).mono ?_
  rintro e u' w'' ⟨rfl, rfl, rfl⟩
  simp [Leaves, settle, results, Tryz.results67, go_sem, d0, d1]
  exact ⟨w3, hR, h3, hB, hfar⟩
set_option maxRecDepth 100000 in
set_option maxHeartbeats 4000000 in
/-- What is done panics with an error. -/
theorem caught_errno (f : FuncId) (cap : Array Value) (w : World) (er : Int) (R : World → Prop)
    (hent : ∀ args w, (callFunc f args).run Tryz.prog w = .ok (.enter f args) w)
    (h : ∀ W, Below w.heap.size w W → w.heap.size + 2 ≤ W.heap.size → Calls Tryz.prog f cap W fun e w' => e = .panicked (Up (.iface 30 (.int .i64 er))) ∧ R w' ∧ W.heap.size ≤ w'.heap.size ∧ (∀ g, w.heap.size ≤ g → g < w.heap.size + 2 → w'.heap[g]? = W.heap[g]?)) :
    Calls Tryz.prog 67 #[.func (.func f) #[] cap] w fun e w' => e = .returned (.tuple #[.int .i64 0, .int .i64 er]) ∧ ∃ w3, R w3 ∧ w.heap.size + 2 ≤ w3.heap.size ∧ Below w.heap.size w3 w' := by
  have hmf : ∀ (fn : Fn) (first cap : Array Value) (w : World), (Instr.makeFunc fn first cap).run Tryz.prog w = .ok (.func fn first cap) w := fun _ _ _ _ => rfl
  go_enter_defers Tryz.func67, Tryz.ntmps67
  go_wp2_with fail
  have hb2 : Below w.heap.size w ((w.alloc (.cells #[.int .i64 0] 3)).alloc (.cells #[.int .i64 0] 30)) := ((Below.refl _ _).alloc (Nat.le_refl _) _).alloc (by simp) _
  have hs2 : ((w.alloc (.cells #[.int .i64 0] 3)).alloc (.cells #[.int .i64 0] 30)).heap.size = w.heap.size + 2 := by simp
  have b0 : ((w.alloc (.cells #[.int .i64 0] 3)).alloc (.cells #[.int .i64 0] 30)).heap[w.heap.size]? = some (.cells #[.int .i64 0] 3) := by rw [heap_old _ _ (by simp)]; exact heap_new _ _
  have b1 : ((w.alloc (.cells #[.int .i64 0] 3)).alloc (.cells #[.int .i64 0] 30)).heap[w.heap.size + 1]? = some (.cells #[.int .i64 0] 30) := heap_at _ _ _ (by simp)
  refine (h _ hb2 (by omega)).mono ?_
  rintro e w3 ⟨rfl, hR, hsz, hk⟩
  have k0 := (hk w.heap.size (Nat.le_refl _) (by omega)).trans b0
  have k1 := (hk (w.heap.size + 1) (by omega) (by omega)).trans b1
  have h3 : w.heap.size + 2 ≤ w3.heap.size := by omega
  have c0 : w3.cell? ⟨w.heap.size, 0, none⟩ = some (.int .i64 0) := by rw [Lib.cell_of_heap k0]; rfl
  have c1 : w3.cell? ⟨w.heap.size + 1, 0, none⟩ = some (.int .i64 0) := by rw [Lib.cell_of_heap k1]; rfl
  have f0 : w3.frozen? ⟨w.heap.size, 0, none⟩ = false := by unfold World.frozen?; rw [k0]; rfl
  have f1 : w3.frozen? ⟨w.heap.size + 1, 0, none⟩ = false := by unfold World.frozen?; rw [k1]; rfl
  clear h hb2 hs2 b0 b1 hk k0 k1 hsz
  unfold Up
  go_wp2
  refine leaves_cons (f := 72) (args := #[.pointer (some ⟨w.heap.size + 1, 0, none⟩), .pointer (some ⟨w.heap.size, 0, none⟩)]) (by simp) (by simp [go_sem]) ?_
  refine (catch_errno _ _ 0 0 er [] _ c1 f1).mono ?_
  rintro e u' w'' ⟨rfl, rfl, rfl⟩
  have hB : Below w.heap.size w3 (w3.setCell ⟨w.heap.size + 1, 0, none⟩ (.int .i64 er)) := (Below.refl w.heap.size w3).setCell (show w.heap.size ≤ (⟨w.heap.size + 1, 0, none⟩ : Addr).block from Nat.le_succ _) _
  have d0 : (w3.setCell ⟨w.heap.size + 1, 0, none⟩ (.int .i64 er)).cell? ⟨w.heap.size, 0, none⟩ = some (.int .i64 0) := by
    rw [World.cell?_setCell_other _ _ _ _ (by intro hh; injection hh with h1 _; omega)]; exact c0
  have d1 : (w3.setCell ⟨w.heap.size + 1, 0, none⟩ (.int .i64 er)).cell? ⟨w.heap.size + 1, 0, none⟩ = some (.int .i64 er) := World.cell?_setCell_same _ _ _ c1
  generalize w3.setCell ⟨w.heap.size + 1, 0, none⟩ (.int .i64 er) = w4 at hB d0 d1 ⊢
  simp [Leaves, settle, results, Tryz.results67, go_sem, d0, d1]
  exact ⟨w3, hR, h3, hB⟩
set_option maxRecDepth 100000 in
set_option maxHeartbeats 4000000 in
/-- What is done panics with a fault. -/
theorem caught_fault (f : FuncId) (cap : Array Value) (w : World) (at_ er : Int) (R : World → Prop)
    (hent : ∀ args w, (callFunc f args).run Tryz.prog w = .ok (.enter f args) w)
    (h : ∀ W, Below w.heap.size w W → w.heap.size + 2 ≤ W.heap.size → Calls Tryz.prog f cap W fun e w' => e = .panicked (Up (.iface 119 (.agg #[.int .i64 at_, .int .i64 er]))) ∧ R w' ∧ W.heap.size ≤ w'.heap.size ∧ (∀ g, w.heap.size ≤ g → g < w.heap.size + 2 → w'.heap[g]? = W.heap[g]?)) :
    Calls Tryz.prog 67 #[.func (.func f) #[] cap] w fun e w' => e = .returned (.tuple #[.int .i64 at_, .int .i64 er]) ∧ ∃ w3, R w3 ∧ w.heap.size + 2 ≤ w3.heap.size ∧ Below w.heap.size w3 w' := by
  have hmf : ∀ (fn : Fn) (first cap : Array Value) (w : World), (Instr.makeFunc fn first cap).run Tryz.prog w = .ok (.func fn first cap) w := fun _ _ _ _ => rfl
  go_enter_defers Tryz.func67, Tryz.ntmps67
  go_wp2_with fail
  have hb2 : Below w.heap.size w ((w.alloc (.cells #[.int .i64 0] 3)).alloc (.cells #[.int .i64 0] 30)) := ((Below.refl _ _).alloc (Nat.le_refl _) _).alloc (by simp) _
  have hs2 : ((w.alloc (.cells #[.int .i64 0] 3)).alloc (.cells #[.int .i64 0] 30)).heap.size = w.heap.size + 2 := by simp
  have b0 : ((w.alloc (.cells #[.int .i64 0] 3)).alloc (.cells #[.int .i64 0] 30)).heap[w.heap.size]? = some (.cells #[.int .i64 0] 3) := by rw [heap_old _ _ (by simp)]; exact heap_new _ _
  have b1 : ((w.alloc (.cells #[.int .i64 0] 3)).alloc (.cells #[.int .i64 0] 30)).heap[w.heap.size + 1]? = some (.cells #[.int .i64 0] 30) := heap_at _ _ _ (by simp)
  refine (h _ hb2 (by omega)).mono ?_
  rintro e w3 ⟨rfl, hR, hsz, hk⟩
  have k0 := (hk w.heap.size (Nat.le_refl _) (by omega)).trans b0
  have k1 := (hk (w.heap.size + 1) (by omega) (by omega)).trans b1
  have h3 : w.heap.size + 2 ≤ w3.heap.size := by omega
  have c0 : w3.cell? ⟨w.heap.size, 0, none⟩ = some (.int .i64 0) := by rw [Lib.cell_of_heap k0]; rfl
  have c1 : w3.cell? ⟨w.heap.size + 1, 0, none⟩ = some (.int .i64 0) := by rw [Lib.cell_of_heap k1]; rfl
  have f0 : w3.frozen? ⟨w.heap.size, 0, none⟩ = false := by unfold World.frozen?; rw [k0]; rfl
  have f1 : w3.frozen? ⟨w.heap.size + 1, 0, none⟩ = false := by unfold World.frozen?; rw [k1]; rfl
  clear h hb2 hs2 b0 b1 hk k0 k1 hsz
  unfold Up
  go_wp2
  refine leaves_cons (f := 72) (args := #[.pointer (some ⟨w.heap.size + 1, 0, none⟩), .pointer (some ⟨w.heap.size, 0, none⟩)]) (by simp) (by simp [go_sem]) ?_
  refine (catch_fault (w.heap.size + 1) w.heap.size w.heap.size 0 0 at_ er [] _ (by omega) (by omega) (by omega) (by omega) (by omega) c1 c0 f1 f0).mono ?_
  rintro e u' w4 ⟨rfl, rfl, hB, d1, d0⟩
  simp [Leaves, settle, results, Tryz.results67, go_sem, d0, d1]
  exact ⟨w3, hR, h3, hB⟩
end Go.Proofs.YthcancakkkjpaaaGreatDoor.ndc
namespace Go.Proofs.YthcancakkkjpaaaGreatDoor.ndc
open Go.RowKit Go.Proofs.YthcancakkkjpaaaGreatDoor.tlvc Go.Proofs.YthcancakkkjpaaaGreatDoor.tlvd Go.Proofs.YthcancakkkjpaaaGreatDoor.txc
set_option linter.unusedVariables false
set_option linter.unusedSimpArgs false
theorem readF_spot {d outer : Nat} {xs : List Int} {at_ F T : Nat} {t : Int} (hh : (headF (xs.drop at_)).1 = 0) (eF : F = at_ + (headF (xs.drop at_)).2.2.1.toNat) (eT : T = F + (headF (xs.drop at_)).2.2.2.toNat) (et : t = (headF (xs.drop at_)).2.1) :
    readF (d + 1) outer xs at_ = if aloneF t ((xs.take T).drop F) outer ≠ 0 then .bad at_ (aloneF t ((xs.take T).drop F) outer) else if compB t = false then .ok (.mk t ((xs.take T).drop F) []) T else kidsF (readF d (outer + 1) (xs.take T)) (xs.take T) F T t at_ := by
  conv => lhs; unfold readF
  simp only
  rw [if_neg (by simp [hh]), ← eF, ← eT, ← et]
  rfl
/-- What is read of all of these bytes. -/
def readAllF (xs : List Int) : RR :=
  match readF 33 0 xs 0 with
  | .bad a e => .bad a e
  | .ok n nx => if nx < xs.length then .bad nx 44 else .ok n nx
def APost (w : World) (r : RR) (e : Ending) (w' : World) : Prop :=
  Below w.heap.size w w' ∧ match r with
  | .bad a er => e = Fault a er
  | .ok n nx => ∃ v, e = .returned v ∧ NdV (fun g => w.heap.size ≤ g) w' n v
/-- What Parse's own closure does. -/
def P1 (W : World) (nn : Nat) (r : RR) (e : Ending) (w' : World) : Prop :=
  match r with
  | .bad a er => e = Fault a er ∧ Below W.heap.size W w'
  | .ok nd nx => e = .returned (.tuple #[]) ∧ ∃ c0 c1 c2 W2, Below W.heap.size W W2 ∧ w' = ((W2.setCell ⟨nn, 0, none⟩ c0).setCell ⟨nn, 1, none⟩ c1).setCell ⟨nn, 2, none⟩ c2 ∧ NdC (fun g => W.heap.size ≤ g) W2 nd c0 c1 c2
/-- How Parse ends. -/
def PPost (w : World) (r : RR) (e : Ending) (w' : World) : Prop :=
  Below w.heap.size w w' ∧ match r with
  | .bad a er => e = .returned (.tuple #[.agg #[.int .u8 0, .slice none 0 0, .slice none 0 0], .int .i64 a, .int .i64 er])
  | .ok nd _ => ∃ v, e = .returned (.tuple #[v, .int .i64 0, .int .i64 0]) ∧ NdV (fun g => w.heap.size ≤ g) w' nd v
end Go.Proofs.YthcancakkkjpaaaGreatDoor.ndc
