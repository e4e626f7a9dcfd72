/- A vault in memory. A term's number, if the vault has it. What a put's rounds keep. The last of a put: the term itself into the list, its number into the map. A term put into a vault. -/
import Derived.Test.YtlhogjigdmpokaaGreatDoorVe
import Derived.Maps.OwnSet
import Derived.StringKeys
import Derived.Lib.QuietBelow
import Derived.BigQuiet
import Derived.Deep.RegionLaw
import Derived.WalkSpells
namespace Go.Proofs.YtlhogjigdmpokaaGreatDoor.vtc
open Go.RowKit Go.Proofs.YtlhogjigdmpokaaGreatDoor.tlvc Go.Proofs.YtlhogjigdmpokaaGreatDoor.tmc
set_option linter.unusedVariables false
/-- Blocks outside of S are kept. -/
structure Off (S : Nat → Prop) (w w' : World) : Prop where
  os : w'.os = w.os
  tape : w'.tape = w.tape
  output : w'.output = w.output
  size : w.heap.size ≤ w'.heap.size
  block : ∀ i, i < w.heap.size → ¬ S i → w'.heap[i]? = w.heap[i]?
theorem Off.refl (S : Nat → Prop) (w : World) : Off S w w := ⟨rfl, rfl, rfl, Nat.le_refl _, fun _ _ _ => rfl⟩
theorem Off.trans {S S' S'' : Nat → Prop} {a b c : World} (h : Off S a b) (k : Off S' b c) (h1 : ∀ g, g < a.heap.size → S g → S'' g) (h2 : ∀ g, g < a.heap.size → S' g → S'' g) : Off S'' a c :=
  ⟨k.os.trans h.os, k.tape.trans h.tape, k.output.trans h.output, Nat.le_trans h.size k.size, fun i hi hn => (k.block i (Nat.lt_of_lt_of_le hi h.size) (fun e => hn (h2 i hi e))).trans (h.block i hi (fun e => hn (h1 i hi e)))⟩
theorem Off.mono {S S' : Nat → Prop} {a b : World} (h : Off S a b) (h1 : ∀ g, g < a.heap.size → S g → S' g) : Off S' a b := ⟨h.os, h.tape, h.output, h.size, fun i hi hn => h.block i hi (fun e => hn (h1 i hi e))⟩
theorem Off.of_below {S : Nat → Prop} {w w' : World} (h : Below w.heap.size w w') : Off S w w' := ⟨h.os, h.tape, h.output, h.size, fun i hi _ => h.block i hi⟩
theorem Off.below {S : Nat → Prop} {w w' : World} (h : Off S w w') {B : Nat} (hB : ∀ g, S g → B ≤ g) (hs : B ≤ w.heap.size) : Below B w w' := ⟨h.os, h.tape, h.output, h.size, fun i hi => h.block i (by omega) (fun e => by have := hB i e; omega)⟩
theorem Off.stays {S B : Nat → Prop} {w w' : World} (h : Off S w w') (hB : ∀ g, g < w.heap.size → B g → ¬ S g) : Stays B w w' := ⟨h.size, fun p hp hl => cell_same (h.block _ hl (hB _ hl hp))⟩
theorem Off.set {S : Nat → Prop} (w : World) (g i : Nat) (v : Value) (hS : S g) : Off S w (w.setCell ⟨g, i, none⟩ v) :=
  ⟨rfl, rfl, rfl, by rw [set_size]; exact Nat.le_refl _, fun k _ hk => set_heap_other _ _ _ _ _ (fun e => hk (e ▸ hS))⟩
theorem Off.set4 {S : Nat → Prop} (w : World) (g i : Nat) (y0 y1 y2 y3 : Value) (hS : S g) : Off S w (set4 w g i y0 y1 y2 y3) :=
  ⟨rfl, rfl, rfl, by rw [set4_size]; exact Nat.le_refl _, fun k _ hk => set4_other _ _ _ _ _ _ _ _ (fun e => hk (e ▸ hS))⟩
theorem Off.grown {S : Nat → Prop} {w w' : World} {row : Option Nat} (h : w.grownBy w' row) (hS : ∀ g, row = some g → S g) : Off S w w' :=
  ⟨h.os, h.tape, h.output, h.size, fun i hi hn => h.block i hi (fun e => hn (hS i e.symm))⟩
theorem own_same {w w' : World} {base : Nat} {e : TypeId} {size : Nat} {v : Value} {n : Nat} {xs : List Value} (h : w.ownsRow base e size v n xs) (hg : ∀ g, v.ownBlock = some g → w'.heap[g]? = w.heap[g]?) : w'.ownsRow base e size v n xs := by
  refine ⟨h.1, ?_⟩
  rcases h.2 with h | ⟨g, cap, cur, h1, h2, h3, rest⟩
  · exact .inl h
  · exact .inr ⟨g, cap, cur, h1, h2, (hg g (by rw [h1]; rfl)).trans h3, rest⟩
theorem map_same {H : Type} {P : Program} {k : TypeId} {R : Value → Option (DataW H × List MemPlace)} {w w' : World} {b n : Nat} {D : DataW H} (h : w.ownsMap P k R b n D) (e : w'.heap[b]? = w.heap[b]?) : w'.ownsMap P k R b n D := by
  obtain ⟨es, clock, hb, r⟩ := h
  exact ⟨es, clock, e.trans hb, r⟩
/-- The blocks of a vault that are written: its box, its map, its list. -/
def Mut (vb mb : Nat) (ob : Option Nat) (g : Nat) : Prop := g = vb ∨ g = mb ∨ ob = some g
/-- In the world w a vault lies at vb; all that it has lies in blocks of S. -/
structure Vlt (S : Nat → Prop) (w : World) (vb mb : Nat) (ob : Option Nat) (L : List Tm) : Prop where
  mem : ∃ (A : Option Addr) (c : Nat) (D : DataW Unit) (cs : List Value), w.heap[vb]? = some (.cells #[.slice A L.length c, .map (some mb)] 77) ∧ w.ownsRow 0 43 4 (.slice A L.length c) L.length cs ∧ (Value.slice A 0 0).ownBlock = ob ∧
    Quads (fun g => S g ∧ ¬ Mut vb mb ob g) w L cs ∧ w.ownsMap Tryz.prog 9 (plainElem Tryz.prog 3) mb L.length D ∧ MapOf D L
  all : ∀ g, Mut vb mb ob g → S g
  apart : vb ≠ mb ∧ ob ≠ some vb ∧ ob ≠ some mb
  once : Once L
  closed : Closed L
  right : ∀ t ∈ L, rightF t 0 = true
  fit : ∀ t ∈ L, FitT t
  len : L.length ≤ 4096
theorem Vlt.lt {S : Nat → Prop} {w : World} {vb mb : Nat} {ob : Option Nat} {L : List Tm} (h : Vlt S w vb mb ob L) {g : Nat} (hg : Mut vb mb ob g) : g < w.heap.size := by
  obtain ⟨A, c, D, cs, h1, h2, h3, h4, h5, h6⟩ := h.mem
  rcases hg with rfl | rfl | hg
  · exact (Array.getElem?_eq_some_iff.1 h1).1
  · exact h5.lt
  · exact (h2.lt g ((own_le A _ _).trans (h3.trans hg))).2
theorem Vlt.mono {S S' : Nat → Prop} {w : World} {vb mb : Nat} {ob : Option Nat} {L : List Tm} (h : Vlt S w vb mb ob L) (hS : ∀ g, S g → S' g) : Vlt S' w vb mb ob L := by
  obtain ⟨A, c, D, cs, h1, h2, h3, h4, h5, h6⟩ := h.mem
  exact ⟨⟨A, c, D, cs, h1, h2, h3, h4.mono fun g hg => ⟨hS g hg.1, hg.2⟩, h5, h6⟩, fun g hg => hS g (h.all g hg), h.apart, h.once, h.closed, h.right, h.fit, h.len⟩
theorem Quads.bound {S : Nat → Prop} {w : World} : ∀ {ks : List Tm} {cs : List Value}, Quads S w ks cs → Quads (fun g => S g ∧ g < w.heap.size) w ks cs
  | [], _, h => h
  | k :: ks, _, ⟨c0, c1, c2, c3, r, e, hk, hr⟩ => ⟨c0, c1, c2, c3, r, e, TmC.bound k c0 c1 c2 c3 hk, Quads.bound hr⟩
theorem Vlt.bound {S : Nat → Prop} {w : World} {vb mb : Nat} {ob : Option Nat} {L : List Tm} (h : Vlt S w vb mb ob L) : Vlt (fun g => S g ∧ g < w.heap.size) w vb mb ob L := by
  obtain ⟨A, c, D, cs, h1, h2, h3, h4, h5, h6⟩ := h.mem
  exact ⟨⟨A, c, D, cs, h1, h2, h3, (Quads.bound h4).mono fun g hg => ⟨⟨hg.1.1, hg.2⟩, hg.1.2⟩, h5, h6⟩, fun g hg => ⟨h.all g hg, h.lt hg⟩, h.apart, h.once, h.closed, h.right, h.fit, h.len⟩
/-- It stays while other blocks are written. -/
theorem Vlt.off {S S' : Nat → Prop} {w w' : World} {vb mb : Nat} {ob : Option Nat} {L : List Tm} (h : Vlt S w vb mb ob L) (k : Off S' w w') (hS : ∀ g, g < w.heap.size → S g → ¬ S' g) : Vlt S w' vb mb ob L := by
  obtain ⟨A, c, D, cs, h1, h2, h3, h4, h5, h6⟩ := h.mem
  have keep : ∀ g, Mut vb mb ob g → w'.heap[g]? = w.heap[g]? := fun g hg => k.block g (h.lt hg) (hS g (h.lt hg) (h.all g hg))
  exact ⟨⟨A, c, D, cs, (keep vb (.inl rfl)).trans h1, own_same h2 fun g hg => keep g (.inr (.inr (by rw [← h3, ← own_le A L.length c]; exact hg))), h3, h4.stays (k.stays fun g hl hg => hS g hl hg.1), map_same h5 (keep mb (.inr (.inl rfl))), h6⟩, h.all, h.apart, h.once, h.closed, h.right, h.fit, h.len⟩
theorem Vlt.below {S : Nat → Prop} {w w' : World} {vb mb : Nat} {ob : Option Nat} {L : List Tm} (h : Vlt S w vb mb ob L) (hb : Below w.heap.size w w') : Vlt S w' vb mb ob L :=
  h.off (S' := fun _ => False) (Off.of_below hb) (fun _ _ _ e => e)
/-- A number that a vault answers: -1 for none. -/
def numI (t : Tm) (L : List Tm) : Int := match findV t L with
  | some i => i
  | none => -1
theorem numI_some {t : Tm} {L : List Tm} {i : Nat} (h : findV t L = some i) : numI t L = i := by unfold numI; rw [h]
theorem numI_none {t : Tm} {L : List Tm} (h : findV t L = none) : numI t L = -1 := by unfold numI; rw [h]
/-- Who has a term has its kids. -/
theorem kids_missing {L : List Tm} (hc : Closed L) {o m : Int} {d : List Int} {ks : List Tm} {k : Tm} (hk : k ∈ ks) (h : k ∉ L) : findV (.mk o m d ks) L = none := by
  refine findV_none.2 fun e => h ?_
  exact closed_kids hc e k hk
/-- The cells of a vault's box. -/
theorem Vlt.cells {S : Nat → Prop} {w : World} {vb mb : Nat} {ob : Option Nat} {L : List Tm} (h : Vlt S w vb mb ob L) : ∃ A c, w.cell? ⟨vb, 0, none⟩ = some (.slice A L.length c) ∧ w.cell? ⟨vb, 1, none⟩ = some (.map (some mb)) ∧ L.length ≤ c ∧ c ≤ 9223372036854775807 ∧ (Value.slice A 0 0).ownBlock = ob := by
  obtain ⟨A, c, D, cs, h1, h2, h3, h4, h5, h6⟩ := h.mem
  obtain ⟨A', c', e, g1, g2, _⟩ := own4_shape h2
  cases e
  exact ⟨A, c, (Lib.cell_of_heap h1 _).trans rfl, (Lib.cell_of_heap h1 _).trans rfl, g1, by unfold maxLen at g2; omega, h3⟩
theorem key_of (xs : List Int) (h : xs.length ≤ 1000000) : keyOf Tryz.prog 9 (.string (strOfNums xs)) = some (kl xs) :=
  Go.WideMaps.keyOf_string_mk Tryz.underlying9 (by rw [strOfNums_size]; unfold maxLen; omega)
theorem zero_int (w : World) : (zeroValue 3).run Tryz.prog w = .ok (.int .i64 0) w := by
  simp [go_sem]
theorem atKey_none {H : Type} {D : DataW H} {k : Lit} (hD : Maps.IsMap D) (h : Maps.has D k = false) (z : DataW H) : D.atKey k z = z := by
  obtain ⟨es, rfl⟩ := hD
  show (match es.find? (fun p => p.1.sameKey k) with | some p => p.2 | none => z) = z
  rw [Maps.has_eq, List.any_eq_false] at h
  rw [List.find?_eq_none.2 h]
/-- A lookup. -/
theorem Vlt.look {S : Nat → Prop} {w : World} {vb mb : Nat} {ob : Option Nat} {L : List Tm} (h : Vlt S w vb mb ob L) {t : Tm} (hk : KidsIn L t) (hf : FitT t) (hl : (keyT L t).length ≤ 1000000) :
    (Instr.lookup 75 (.map (some mb)) (.string (strOfNums (keyT L t))) true).run Tryz.prog w = .ok (.tuple #[.int .i64 (((findV t L).getD 0 : Nat) : Int), .bool (findV t L).isSome]) w := by
  obtain ⟨A, c, D, cs, h1, h2, h3, h4, h5, h6⟩ := h.mem
  obtain ⟨v, ps, hrun, hv⟩ := h5.look_ok (Maps.string_keyed Tryz.underlying9) Tryz.underlying75 (zero_int w) (zd := .lit (.int .i64 0)) (zp := []) (plainElem_int Tryz.underlying3 (by decide)) (key_of _ hl)
  obtain ⟨x, rfl, hx, _⟩ := plainElem_int_inv Tryz.underlying3 hv
  rw [hrun]
  rcases h6.look h.closed h.fit hk hf with ⟨i, e1, e2, e3⟩ | ⟨e1, e2⟩
  · rw [e3] at hx
    simp at hx
    rw [e1, e2, ← hx.1]
    rfl
  · rw [atKey_none h6.map e2] at hx
    simp at hx
    rw [e1, e2, ← hx.1]
    rfl
/-- A term's kid, where it lies. -/
theorem kidv {B : Nat → Prop} {w : World} {o m : Int} {d : List Int} {ks : List Tm} {c0 c1 c2 : Value} {K : Option Addr} {lk ck : Nat} (h : TmC B w (.mk o m d ks) c0 c1 c2 (.slice K lk ck)) :
    ks.length = lk ∧ lk ≤ ck ∧ ck ≤ 9223372036854775807 ∧ ∀ i, i < lk → ∃ k g off d0 d1 d2 d3, ks[i]? = some k ∧ K = some ⟨g, off, none⟩ ∧ w.cell? ⟨g, off + i * 4, none⟩ = some d0 ∧ w.cell? ⟨g, off + i * 4 + 1, none⟩ = some d1 ∧ w.cell? ⟨g, off + i * 4 + 2, none⟩ = some d2 ∧ w.cell? ⟨g, off + i * 4 + 3, none⟩ = some d3 ∧ TmC B w k d0 d1 d2 d3 := by
  unfold TmC at h
  obtain ⟨_, _, _, _, _, K', ck', e, h1, h2, h3⟩ := h
  cases e
  refine ⟨rfl, h1, by unfold maxLen at h2; omega, fun i hi => ?_⟩
  obtain ⟨g, off, rfl, hg, hB, hks⟩ := h3 (by omega)
  obtain ⟨d0, d1, d2, d3, e0, e1, e2, e3, hd⟩ := hks.at i hi
  exact ⟨ks[i], g, off, d0, d1, d2, d3, List.getElem?_eq_getElem hi, rfl, e0, e1, e2, e3, hd⟩
end Go.Proofs.YtlhogjigdmpokaaGreatDoor.vtc
namespace Go.Proofs.YtlhogjigdmpokaaGreatDoor.vtc
open Go.RowKit Go.Proofs.YtlhogjigdmpokaaGreatDoor.tlvc Go.Proofs.YtlhogjigdmpokaaGreatDoor.tmc
set_option linter.unusedVariables false
theorem Tryz.infoInt : (Tryz.prog.info? 3).map (fun i => (i.zero, i.size, i.bytes)) = some (some (.int .i64 0), 1, 8) := by kernel_rfl
/-- One integer more. -/
theorem app_int (w : World) (base : Nat) (v : Value) (n : Nat) (cs : List Value) (hown : w.ownsRow base 3 1 v n cs) (x : Int) (hx : I64 x) (hn : n + 1 ≤ 1000000) (hbase : base ≤ w.heap.size) :
    ∃ v' w', (Builtin.append_ #[23, 23] 23 #[v, .slice (some ⟨w.heap.size, 0, none⟩) 1 1]).run Tryz.prog (w.alloc (.cells #[.int .i64 x] 3)) = .ok v' w' ∧ w'.ownsRow base 3 1 v' (n + 1) (cs ++ ivals [x]) ∧ (w.alloc (.cells #[.int .i64 x] 3)).grownBy w' v.ownBlock ∧ (v'.ownBlock = v.ownBlock ∨ ∃ g', v'.ownBlock = some g' ∧ w.heap.size ≤ g') := by
  obtain ⟨i0, hi, hz0, hz1, hz2⟩ := info_parts Tryz.infoInt
  have hnew := heap_new_ w (.cells #[.int .i64 x] 3)
  obtain ⟨v', w', h1, h2, h3, _, h5⟩ := app_gen (P := Tryz.prog) (w.alloc (.cells #[.int .i64 x] 3)) base 23 23 3 i0 (.int .i64 0) 1 8 Tryz.underlying23 hi hz0 hz1 hz2 rfl (by decide) v n cs (own_below hown (below_new _ _)) ⟨w.heap.size, 0, none⟩ 1 1 (ivals [x]) (by rw [ivals_length]; rfl)
    (fun j u hu => by
      have hj := (List.getElem?_eq_some_iff.1 hu).1
      rw [ivals_length] at hj
      obtain rfl : j = 0 := by simpa using hj
      rw [Addr.add_lit, Nat.zero_add, Lib.cell_of_heap hnew, ← hu]
      rfl) (ivals_one [x]) (by unfold maxLen; omega) (by omega) (by simp; omega)
  refine ⟨v', w', h1, h2, h3, ?_⟩
  rcases h5 with h | ⟨g', h, hg⟩
  · exact .inl h
  · exact .inr ⟨g', h, by simp at hg; omega⟩
theorem app_int_below {w w' : World} {base : Nat} {v : Value} {n : Nat} {cs : List Value} {x : Int} (hown : w.ownsRow base 3 1 v n cs) (hbase : base ≤ w.heap.size) (hg : (w.alloc (.cells #[.int .i64 x] 3)).grownBy w' v.ownBlock) : Below base w w' :=
  ((below_new w _).mono hbase).grown hg (by simp; omega) fun j hj => (hown.lt j hj).1
def NumsAt (t : Tm) : Prop := ∀ (S B : Nat → Prop) (vb mb : Nat) (ob : Option Nat) (L : List Tm) (v : Value) (w : World), Vlt S w vb mb ob L → TmV B w t v → txc.Tab w.heap.size w →
    Calls Tryz.prog 37 #[.pointer (some ⟨vb, 0, none⟩), v] w fun e w' => e = .returned (.tuple #[.int .i64 (numI t L), .bool (findV t L).isSome]) ∧ Below w.heap.size w w'
theorem num_app {w0 wr wn w2 : World} {v : Value} {i j : Nat} {L ks : List Tm} {k : Tm} (h1 : wr.ownsRow w0.heap.size 3 1 v i (ivals (kidsN L (ks.take i)))) (h2 : Below w0.heap.size w0 wn) (hnew : Below wr.heap.size wr wn) (hb2 : Below wn.heap.size wn w2) (hki : ks[i]? = some k) (hfk : findV k L = some j) (hi : i ≤ 10000) (hall : ∀ x ∈ ks.take i, x ∈ L) (hk : k ∈ L) (hj : j < 4096) :
    ∃ v' w', (Builtin.append_ #[23, 23] 23 #[v, .slice (some ⟨w2.heap.size, 0, none⟩) 1 1]).run Tryz.prog (w2.alloc (.cells #[.int .i64 j] 3)) = .ok v' w' ∧ w'.ownsRow w0.heap.size 3 1 v' (i + 1) (ivals (kidsN L (ks.take (i + 1)))) ∧ Below w0.heap.size w0 w' ∧ ∀ x ∈ ks.take (i + 1), x ∈ L := by
  have ho := own_below (own_below h1 hnew) hb2
  have hsz := Nat.le_trans h2.size hb2.size
  obtain ⟨v7, w7, hrun, g1, g2, _⟩ := app_int w2 w0.heap.size v i _ ho j (by unfold I64; omega) (by omega) hsz
  have hkn : ivals (kidsN L (ks.take i)) ++ ivals [(j : Int)] = ivals (kidsN L (ks.take (i + 1))) := by
    rw [kidsN_at L ks hki, hfk, ivals_append]
    rfl
  rw [hkn] at g1
  refine ⟨v7, w7, hrun, g1, (h2.trans (hb2.mono h2.size)).trans (app_int_below ho hsz g2), fun x hx => ?_⟩
  obtain ⟨hi9, e9⟩ := List.getElem?_eq_some_iff.1 hki
  rw [List.take_succ_eq_append_getElem hi9, List.mem_append, List.mem_singleton] at hx
  rcases hx with hx | hx
  · exact hall x hx
  · rw [hx, e9]; exact hk
set_option maxRecDepth 100000 in
set_option maxHeartbeats 16000000 in
theorem num_step (o m : Int) (d : List Int) (ks : List Tm) (hk : ∀ k ∈ ks, NumsAt k) (hdl : d.length ≤ 8192) (hn : ks.length ≤ 10000) : NumsAt (.mk o m d ks) := by
  intro S B vb mb ob L v w hV hv ht
  obtain ⟨c0, c1, c2, c3, rfl, hc⟩ := hv
  obtain ⟨oo, mm, A, la, ca, K, n, ck, rfl, rfl, rfl, rfl⟩ := hc.shape
  have hc0 := hc
  obtain ⟨hlen, hlc, hck9, _⟩ := kidv hc
  rw [hlen] at hn
  unfold TmC at hc
  obtain ⟨e0, ho, e1, hm, ⟨A', la', ca', e2, hA1, hA2, hA3, hA4⟩, _⟩ := hc
  cases e0; cases e1; cases e2
  have hdla : d.length = la := hA3.1
  obtain ⟨W0, hW0⟩ : ∃ x, w.alloc (.cells #[.int .i64 o, .int .i64 m, .slice A la ca, .slice K n ck] 43) = x := ⟨_, rfl⟩
  have hz0 : W0.heap.size = w.heap.size + 1 := by rw [← hW0]; simp
  have p0 : W0.heap[w.heap.size]? = some (.cells #[.int .i64 o, .int .i64 m, .slice A la ca, .slice K n ck] 43) := by rw [← hW0]; exact heap_new_ _ _
  have hb0 : Below w.heap.size w W0 := by rw [← hW0]; exact below_new _ _
  have hbox : ∀ W, Below W0.heap.size W0 W → W.cell? ⟨w.heap.size, 0, none⟩ = some (.int .i64 o) ∧ W.cell? ⟨w.heap.size, 1, none⟩ = some (.int .i64 m) ∧ W.cell? ⟨w.heap.size, 2, none⟩ = some (.slice A la ca) ∧ W.cell? ⟨w.heap.size, 3, none⟩ = some (.slice K n ck) := fun W hW => by
    have h := (hW.block w.heap.size (by omega)).trans p0
    exact ⟨(Lib.cell_of_heap h _).trans rfl, (Lib.cell_of_heap h _).trans rfl, (Lib.cell_of_heap h _).trans rfl, (Lib.cell_of_heap h _).trans rfl⟩
  have f3 := (hbox W0 (Below.refl _ _)).2.2.2
  have hV0 := hV.below hb0
  have ht0 : txc.Tab W0.heap.size W0 := (ht.on hb0).mono hb0.size
  have hkid := fun W (hW : Below w.heap.size w W) => (kidv (TmC.below hW _ _ _ _ _ hc0)).2.2.2
  have HKID := Lib.hid hkid
  have HIH := Lib.hid hk
  have HLEN := Lib.hid (And.intro hlen hdla)
  have HB0 := Lib.hid hb0
  have HV0 := Lib.hid hV0
  have HT0 := Lib.hid ht0
  have HBOX := Lib.hid hbox
  have HA := Lib.hid (And.intro hA1 (And.intro hA2 hA3))
  have HC0 := Lib.hid hc0
  have HZ0 := Lib.hid hz0
  clear hkid hk hlen hdla hb0 hV hV0 ht ht0 hbox hA3 hA4 hc0 p0 hz0 hA1 hA2
  obtain ⟨is, his⟩ : ∃ x, (findV (.mk o m d ks) L).isSome = x := ⟨_, rfl⟩
  obtain ⟨NI, hNI⟩ : ∃ x, numI (.mk o m d ks) L = x := ⟨_, rfl⟩
  rw [his, hNI]
  have HRES := Lib.hid (And.intro his hNI)
  clear his hNI
  go_enter Tryz.func37, Tryz.ntmps37
  go_wp2_with fail
  go_loopg [6, 16] (n + 1) (fun gk s6 s16 wx => ∃ (i : Nat) (vks : Value), s6 = vks ∧ s16 = .int .i64 i ∧ i ≤ n ∧ n - i < gk ∧ Hid (wx.ownsRow W0.heap.size 3 1 vks i (ivals (kidsN L (ks.take i))) ∧ Below W0.heap.size W0 wx ∧ ∀ k ∈ ks.take i, k ∈ L))
  case atStart => exact ⟨0, _, rfl, rfl, by omega, by omega, Lib.hid ⟨by rw [List.take_zero]; exact World.ownsRow_nil _ _ _ _, Below.refl _ _, fun k hk => by simp at hk⟩⟩
  case round =>
    obtain ⟨i, vks, hv9, rfl, hi, hgk, HI⟩ := hrel
    obtain rfl := hv9.symm
    by_cases hlt : i < n
    · have hltz : (i : Int) < (n : Int) := by omega
      obtain ⟨gk', rfl⟩ : ∃ g', gk = g' + 1 := ⟨gk - 1, by omega⟩
      have HN12 := Lib.hid (And.intro (show i + 1 ≤ n from hlt) (show n - (i + 1) < gk' by omega))
      have hbw : Below w.heap.size w wr := HB0.out.trans (HI.out.2.1.mono HB0.out.size)
      obtain ⟨k, g, off, d0, d1, d2, d3, hki, rfl, e0, e1, e2, e3, hd⟩ := HKID.out wr hbw i hlt
      obtain ⟨to, tm, tA, tla, tca, tK, tlk, tck, q0, q1, q2, q3⟩ := hd.shape
      subst q0 q1 q2 q3
      have hnew : Below wr.heap.size wr (wr.alloc (.cells #[.int .i64 to, .int .i64 tm, .slice tA tla tca, .slice tK tlk tck] 43)) := below_new _ _
      have hV1 := (HV0.out.below HI.out.2.1).below hnew
      have hbx : Below W0.heap.size W0 (wr.alloc (.cells #[.int .i64 to, .int .i64 tm, .slice tA tla tca, .slice tK tlk tck] 43)) := HI.out.2.1.trans (hnew.mono HI.out.2.1.size)
      have C1 := HIH.out k (List.mem_of_getElem? hki) S B vb mb ob L (.agg #[.int .i64 to, .int .i64 tm, .slice tA tla tca, .slice tK tlk tck]) (wr.alloc (.cells #[.int .i64 to, .int .i64 tm, .slice tA tla tca, .slice tK tlk tck] 43)) hV1 ⟨_, _, _, _, rfl, TmC.below hnew _ _ _ _ _ hd⟩ ((HT0.out.on hbx).mono hbx.size)
      have hmem : k ∈ ks := List.mem_of_getElem? hki
      have HKI := Lib.hid hki
      have HBX := Lib.hid hbx
      have HNEW := Lib.hid hnew
      cases hfk : findV k L with
      | none =>
        rw [hfk, numI_none hfk] at C1
        have HM := Lib.hid (kids_missing (o := o) (m := m) (d := d) HV0.out.closed hmem (findV_none.1 hfk))
        have HC1 := Lib.hid C1
        clear C1 hfk hmem hki hd hV1 hbx hnew hgk hbw
        go_wp2_with (go_at_call 37; refine HC1.out.mono ?_; rintro e w2 ⟨rfl, hb2⟩)
        have HE := Lib.hid (HB0.out.trans ((HBX.out.trans (hb2.mono HBX.out.size)).mono HB0.out.size))
        clear HC1 hb2 e0 e1 e2 e3
        go_wp2
        go_ret2
        exact ⟨by rw [← HRES.out.1, ← HRES.out.2, numI_none HM.out, HM.out]; rfl, HE.out⟩
      | some j =>
        rw [hfk, numI_some hfk] at C1
        have hj := findV_lt hfk
        have hL := HV0.out.len
        have hkm : k ∈ L := List.mem_of_getElem? (findV_some hfk).1
        have HC1 := Lib.hid C1
        have HFK := Lib.hid (And.intro hfk (And.intro hkm (show j < 4096 by omega)))
        clear C1 hfk hmem hki hd hV1 hbx hnew hgk hbw hj hL hkm
        have hstep := fun (w2 : World) (hb2 : Below (wr.alloc (.cells #[.int .i64 to, .int .i64 tm, .slice tA tla tca, .slice tK tlk tck] 43)).heap.size (wr.alloc (.cells #[.int .i64 to, .int .i64 tm, .slice tA tla tca, .slice tK tlk tck] 43)) w2) => num_app HI.out.1 HBX.out HNEW.out hb2 HKI.out HFK.out.1 (by omega) HI.out.2.2 HFK.out.2.1 HFK.out.2.2
        have HS := Lib.hid hstep
        clear hstep HI HFK HKI HBX HNEW
        go_wp2_with (first | (at_builtin; refine wpl_append rfl (.tmp 28) (.tmp 30) 23 rfl _ _ _ rfl rfl hrun ?_) | (go_at_call 37; refine HC1.out.mono ?_; rintro e w2 ⟨rfl, hb2⟩; obtain ⟨v7, w7, hrun, hI2⟩ := HS.out w2 hb2; have HI2 := Lib.hid hI2; clear hI2 hb2))
        clear hrun HC1 HS e0 e1 e2 e3
        go_wp2
        go_roundg gk'
        case measure => omega
        case rel => exact ⟨i + 1, v7, rfl, by go_num, HN12.out.1, HN12.out.2, HI2⟩
    · have hltz : ¬ (i : Int) < (n : Int) := by omega
      obtain rfl : i = n := by omega
      have hI := HI.out
      rw [List.take_of_length_le (by rw [HLEN.out.1]; exact Nat.le_refl _)] at hI
      obtain ⟨A6, c6, rfl, hl6, hm6, _⟩ := own_shape hI.1
      have hV1 := HV0.out.below hI.2.1
      obtain ⟨A9, c9, x0, x1, hl9, hm9, _⟩ := hV1.cells
      have hins : Ins wr A6 i (kidsN L ks) := Ins.own hI.1 (kidsN_fit (by have := HV0.out.len; omega))
      have hfit := HA.out.2.2.2.1
      have hkl : (keyT L (.mk o m d ks)).length ≤ 1000000 := by
        have := keyF_len (o := o) (m := m) (ks := kidsN L ks) (d := d) ho hm (kidsN_fit (by have := HV0.out.len; omega))
        rw [kidsN_len] at this
        have := HLEN.out.1
        show (keyF o m (kidsN L ks) d).length ≤ 1000000
        omega
      have hlook : ∀ (q : Nat) (os : Array Obj), (Instr.lookup 75 (.map (some mb)) (.string (strOfNums (keyT L (.mk o m d ks)))) true).run Tryz.prog (Sort.grow (redrawn wr q) os) = .ok (.tuple #[.int .i64 (((findV (.mk o m d ks) L).getD 0 : Nat) : Int), .bool (findV (.mk o m d ks) L).isSome]) (Sort.grow (redrawn wr q) os) := fun q os => (hV1.below (below_regrown wr q os)).look hI.2.2 hfit hkl
      have b4 : ∀ (q : Nat) (os : Array Obj), (Sort.grow (redrawn wr q) os).cell? ⟨w.heap.size, 0, none⟩ = some (.int .i64 o) ∧ (Sort.grow (redrawn wr q) os).cell? ⟨w.heap.size, 1, none⟩ = some (.int .i64 m) ∧ (Sort.grow (redrawn wr q) os).cell? ⟨w.heap.size, 2, none⟩ = some (.slice A la ca) ∧ (Sort.grow (redrawn wr q) os).cell? ⟨w.heap.size, 3, none⟩ = some (.slice K i ck) := fun q os => HBOX.out _ (hI.2.1.trans ((below_regrown wr q os).mono hI.2.1.size))
      have y0 := fun q os => (b4 q os).1
      have y1 := fun q os => (b4 q os).2.1
      have y2 := fun q os => (b4 q os).2.2.1
      have y3 := fun q os => (b4 q os).2.2.2
      have x1 : ∀ (q : Nat) (os : Array Obj), (Sort.grow (redrawn wr q) os).cell? ⟨vb, 1, none⟩ = some (.map (some mb)) := fun q os => cell_regrown x1 q os
      have hbw : Below w.heap.size w wr := HB0.out.trans (hI.2.1.mono HB0.out.size)
      have hwr := fun (q : Nat) (os : Array Obj) => written_any o m ho hm A la ca d (.slice K i ck) A6 i c6 (kidsN L ks) (Sort.grow (redrawn wr q) os) ((HA.out.2.2.below hbw).below (below_regrown wr q os)) HA.out.1 HA.out.2.1 (hins.below (below_regrown wr q os)) hl6 hm6 (by omega) (by have := HLEN.out.2; omega) (((HT0.out.on hI.2.1).mono hI.2.1.size).on (below_regrown wr q os) |>.mono (below_regrown wr q os).size) ⟨K, i, ck, rfl⟩
      have HW := Lib.hid hwr
      have HE := Lib.hid hbw
      obtain ⟨N, hN⟩ : ∃ x, (((findV (.mk o m d ks) L).getD 0 : Nat) : Int) = x := ⟨_, rfl⟩
      have his := HRES.out.1
      have hNI := HRES.out.2
      have hgo : is = true → NI = N := fun h => by
        rw [h] at his
        obtain ⟨j, hj⟩ := Option.isSome_iff_exists.1 his
        rw [hj] at hN
        rw [numI_some hj] at hNI
        rw [← hNI, ← hN]
        rfl
      have hgo2 : is = false → NI = -1 := fun h => by
        rw [h] at his
        cases e : findV (.mk o m d ks) L with
        | none => rw [numI_none e] at hNI; exact hNI.symm
        | some j => rw [e] at his; cases his
      rw [hN, his] at hlook
      have hkey : keyT L (.mk o m d ks) = keyF o m (kidsN L ks) d := rfl
      rw [hkey] at hlook
      have HLK := Lib.hid hlook
      have HG := Lib.hid (And.intro hgo hgo2)
      clear b4 hwr hlook hkl hfit hins hbw hI HI hV1 x0 hl9 hm9 hN his hNI hgo hgo2 hkey hl6 hm6 HRES
      have hlook := HLK.out
      go_wp2_with fail
      refine wp_region_quiet_below (by kernel_rfl) (by kernel_rfl) ?_
      repeat (go_big_quiet_step ((first | (go_at_call 66; refine Calls.regrown_of (HW.out _ _)))))
      refine wpQuiet_nil ?_
      intro _ hw'
      obtain ⟨⟨nq, osq⟩, hw''⟩ := hw'
      subst hw''
      clear y0 y1 y2 y3 x1 hlook HW HLK
      cases is with
      | true =>
        have e := HG.out.1 rfl
        have HE2 := Lib.hid (HE.out.trans ((below_regrown wr nq osq).mono HE.out.size))
        clear HE HG
        subst e
        go_wp2
        go_ret2
        exact ⟨rfl, HE2.out⟩
      | false =>
        have e := HG.out.2 rfl
        have HE2 := Lib.hid (HE.out.trans ((below_regrown wr nq osq).mono HE.out.size))
        clear HE HG
        subst e
        go_wp2
        go_ret2
        exact ⟨rfl, HE2.out⟩
theorem nums_all : ∀ (N : Nat) (t : Tm), szT t ≤ N → N ≤ 10000 → rightF t 0 = true → NumsAt t
  | 0, .mk _ _ _ ks, h, _, _ => by unfold szT at h; omega
  | N + 1, .mk o m d ks, h, hN, hr => by
    unfold szT at h
    refine num_step o m d ks (fun k hk => nums_all N k (by have := szTs_mem hk; omega) (by omega) (right_kids hr hk)) ?_ ?_
    · exact (alone_data (right_mk.1 hr).2.1).1
    · have := len_szTs ks
      omega
theorem num_any (t : Tm) (h : szT t ≤ 10000) (hr : rightF t 0 = true) : NumsAt t := nums_all 10000 t h (Nat.le_refl _) hr
end Go.Proofs.YtlhogjigdmpokaaGreatDoor.vtc
namespace Go.Proofs.YtlhogjigdmpokaaGreatDoor.vtc
open Go.RowKit Go.Proofs.YtlhogjigdmpokaaGreatDoor.tlvc Go.Proofs.YtlhogjigdmpokaaGreatDoor.tmc
set_option linter.unusedVariables false
theorem puts_snoc : ∀ (ks : List Tm) (i : Nat) (k : Tm) (L : List Tm), ks[i]? = some k → putsV (ks.take (i + 1)) L = putV k (putsV (ks.take i) L)
  | [], i, k, L, h => by simp at h
  | x :: ks, 0, k, L, h => by
    obtain rfl : x = k := by simpa using h
    rw [List.take_succ_cons, List.take_zero, List.take_zero, putsV_cons, putsV_nil, putsV_nil]
  | x :: ks, i + 1, k, L, h => by
    rw [List.take_succ_cons, List.take_succ_cons, putsV_cons, putsV_cons]
    exact puts_snoc ks i k _ (by simpa using h)
/-- Where the vault's memory lies in the middle of a put. -/
def Room (w : World) (S : Nat → Prop) (A : Option Addr) (v6 : Value) (g : Nat) : Prop := (S g ∨ w.heap.size + 2 ≤ g) ∧ some g ≠ (Value.slice A 0 0).ownBlock ∧ some g ≠ v6.ownBlock
structure PI (w : World) (S : Nat → Prop) (vb mb : Nat) (ob0 : Option Nat) (o m : Int) (tb : Obj) (Lx : List Tm) (zs : List Int) (us : List Tm) (ob : Option Nat) (A : Option Addr) (c : Nat) (v6 : Value) (wx : World) : Prop where
  bd : ∀ g, S g → g < w.heap.size
  vlt : Vlt (Room w S A v6) wx vb mb ob Lx
  hob : ob = ob0 ∨ ∃ g, ob = some g ∧ w.heap.size ≤ g
  off : Off (Mut vb mb ob0) w wx
  box : wx.heap[w.heap.size]? = some tb
  own : wx.heap[w.heap.size + 1]? = some (.cells #[.int .i64 o, .int .i64 m, .slice none 0 0, .slice A us.length c] 43)
  row : ∃ cs, wx.ownsRow (w.heap.size + 2) 43 4 (.slice A us.length c) us.length cs ∧ Quads (fun g => Room w S A v6 g ∧ ¬ Mut vb mb ob g) wx us cs
  nums : wx.ownsRow (w.heap.size + 2) 3 1 v6 zs.length (ivals zs)
  ne : ∀ g, (Value.slice A 0 0).ownBlock = some g → v6.ownBlock ≠ some g
section
variable {w : World} {S : Nat → Prop} {vb mb : Nat} {ob0 : Option Nat} {o m : Int} {tb : Obj} {Lx : List Tm} {zs : List Int} {us : List Tm} {ob : Option Nat} {A : Option Addr} {c : Nat} {v6 : Value} {wx : World}
theorem PI.size (h : PI w S vb mb ob0 o m tb Lx zs us ob A c v6 wx) : w.heap.size + 2 ≤ wx.heap.size := (Array.getElem?_eq_some_iff.1 h.own).1
theorem PI.kb (h : PI w S vb mb ob0 o m tb Lx zs us ob A c v6 wx) {g : Nat} (e : (Value.slice A 0 0).ownBlock = some g) : w.heap.size + 2 ≤ g ∧ g < wx.heap.size := by
  obtain ⟨cs, h1, _⟩ := h.row
  exact h1.lt g ((own_le A _ _).trans e)
theorem PI.nb (h : PI w S vb mb ob0 o m tb Lx zs us ob A c v6 wx) {g : Nat} (e : v6.ownBlock = some g) : w.heap.size + 2 ≤ g ∧ g < wx.heap.size := h.nums.lt g e
/-- The vault's own blocks are none of the call's. -/
theorem PI.mut (h : PI w S vb mb ob0 o m tb Lx zs us ob A c v6 wx) {g : Nat} (hg : Mut vb mb ob g) : g ≠ w.heap.size ∧ g ≠ w.heap.size + 1 ∧ some g ≠ (Value.slice A 0 0).ownBlock ∧ some g ≠ v6.ownBlock := by
  obtain ⟨h1, h2, h3⟩ := h.vlt.all g hg
  have hb : g < w.heap.size ∨ w.heap.size + 2 ≤ g := h1.imp (h.bd g) id
  exact ⟨by omega, by omega, h2, h3⟩
/-- Below the call they are what they were. -/
theorem PI.old (h : PI w S vb mb ob0 o m tb Lx zs us ob A c v6 wx) {g : Nat} (hl : g < w.heap.size) (hg : Mut vb mb ob g) : Mut vb mb ob0 g := by
  rcases hg with hg | hg | hg
  · exact .inl hg
  · exact .inr (.inl hg)
  · rcases h.hob with e | ⟨b, e, hb⟩
    · exact .inr (.inr (e ▸ hg))
    · rw [e] at hg; cases hg; omega
theorem PI.below {wy : World} (h : PI w S vb mb ob0 o m tb Lx zs us ob A c v6 wx) (hb : Below wx.heap.size wx wy) : PI w S vb mb ob0 o m tb Lx zs us ob A c v6 wy := by
  have hz := h.size
  obtain ⟨cs, h1, h2⟩ := h.row
  exact ⟨h.bd, h.vlt.below hb, h.hob, h.off.trans (Off.of_below (S := Mut vb mb ob0) hb) (fun _ _ e => e) (fun _ _ e => e), (hb.block _ (by omega)).trans h.box, (hb.block _ (by omega)).trans h.own, ⟨cs, own_below h1 hb, h2.stays (stays_below hb _)⟩, own_below h.nums hb, h.ne⟩
theorem PI.call {ob5 : Option Nat} {L5 : List Tm} {w5 : World} (h : PI w S vb mb ob0 o m tb Lx zs us ob A c v6 wx) (hV : Vlt (fun g => Room w S A v6 g ∨ wx.heap.size ≤ g) w5 vb mb ob5 L5) (hob5 : ob5 = ob ∨ ∃ g, ob5 = some g ∧ wx.heap.size ≤ g) (hoff : Off (Mut vb mb ob) wx w5) : PI w S vb mb ob0 o m tb L5 zs us ob5 A c v6 w5 := by
  have hz := h.size
  obtain ⟨cs, h1, h2⟩ := h.row
  refine ⟨h.bd, hV.mono fun g hg => ?_, ?_, h.off.trans hoff (fun _ _ e => e) (fun g hl e => h.old hl e), ?_, ?_, ⟨cs, ?_, ?_⟩, ?_, h.ne⟩
  · rcases hg with hg | hg
    · exact hg
    · exact ⟨.inr (by omega), fun e => by have := h.kb e.symm; omega, fun e => by have := h.nb e.symm; omega⟩
  · rcases hob5 with e | ⟨g, e, hg⟩
    · rw [e]; exact h.hob
    · exact .inr ⟨g, e, by omega⟩
  · exact (hoff.block _ (by omega) (fun e => (h.mut e).1 rfl)).trans h.box
  · exact (hoff.block _ (by omega) (fun e => (h.mut e).2.1 rfl)).trans h.own
  · exact own_same h1 fun g hg => hoff.block g (h1.lt g hg).2 (fun e => (h.mut e).2.2.1 (by rw [← own_le A us.length c]; exact hg.symm))
  · refine Quads.below2 (hoff.stays fun g _ hg => hg.2) (fun g hg hl => ⟨hg.1, ?_⟩) h2
    rintro (e | e | e)
    · exact hg.2 (.inl e)
    · exact hg.2 (.inr (.inl e))
    · rcases hob5 with e5 | ⟨b, e5, hb⟩
      · exact hg.2 (.inr (.inr (e5 ▸ e)))
      · rw [e5] at e; cases e; omega
  · exact own_same h.nums fun g hg => hoff.block g (h.nums.lt g hg).2 (fun e => (h.mut e).2.2.2 hg.symm)
/-- One number more. -/
theorem PI.num (h : PI w S vb mb ob0 o m tb Lx zs us ob A c v6 wx) (x : Int) (hx : I64 x) (hn : zs.length ≤ 10000) :
    ∃ v' w', (Builtin.append_ #[23, 23] 23 #[v6, .slice (some ⟨wx.heap.size, 0, none⟩) 1 1]).run Tryz.prog (wx.alloc (.cells #[.int .i64 x] 3)) = .ok v' w' ∧ PI w S vb mb ob0 o m tb Lx (zs ++ [x]) us ob A c v' w' := by
  have hz := h.size
  obtain ⟨v', w', hrun, g1, g2, g3⟩ := app_int wx (w.heap.size + 2) v6 zs.length (ivals zs) h.nums x hx (by omega) hz
  obtain ⟨cs, h1, h2⟩ := h.row
  have hal : Below wx.heap.size wx (wx.alloc (.cells #[.int .i64 x] 3)) := below_new _ _
  have hoff : Off (fun g => v6.ownBlock = some g) wx w' := (Off.of_below (S := fun g => v6.ownBlock = some g) hal).trans (Off.grown (S := fun g => v6.ownBlock = some g) g2 fun g e => e) (fun _ _ e => e) (fun _ _ e => e)
  have hne : ∀ g, g < wx.heap.size → some g ≠ v6.ownBlock → some g ≠ v'.ownBlock := fun g hl hg e => by
    rcases g3 with e3 | ⟨b, e3, hb⟩
    · rw [e3] at e; exact hg e
    · rw [e3] at e; cases e; omega
  refine ⟨v', w', hrun, h.bd, ?_, h.hob, ?_, ?_, ?_, ⟨cs, ?_, ?_⟩, ?_, ?_⟩
  · exact ((h.vlt.bound).off hoff fun g hl hg e => hg.1.2.2 e.symm).mono fun g hg => ⟨hg.1.1, hg.1.2.1, hne g hg.2 hg.1.2.2⟩
  · exact h.off.trans hoff (fun _ _ e => e) (fun g hl e => by have := h.nb e; omega)
  · exact (hoff.block _ (by omega) (fun e => by have := h.nb e; omega)).trans h.box
  · exact (hoff.block _ (by omega) (fun e => by have := h.nb e; omega)).trans h.own
  · exact own_same h1 fun g hg => hoff.block g (h1.lt g hg).2 (h.ne g ((own_le A _ _).symm.trans hg))
  · exact Quads.below2 (hoff.stays fun g _ hg e => hg.1.2.2 e.symm) (fun g hg hl => ⟨⟨hg.1.1, hg.1.2.1, hne g hl hg.1.2.2⟩, hg.2⟩) h2
  · rw [List.length_append, ivals_append]; exact g1
  · intro g hg e
    rcases g3 with e3 | ⟨b, e3, hb⟩
    · exact h.ne g hg (e3.symm.trans e)
    · rw [e3] at e
      cases e
      have := h.kb hg
      omega
/-- A term of the vault, where it lies. -/
theorem Vlt.at {S : Nat → Prop} {w : World} {vb mb : Nat} {ob : Option Nat} {L : List Tm} (h : Vlt S w vb mb ob L) : ∃ A c, w.cell? ⟨vb, 0, none⟩ = some (.slice A L.length c) ∧ w.cell? ⟨vb, 1, none⟩ = some (.map (some mb)) ∧ L.length ≤ c ∧ c ≤ 9223372036854775807 ∧ (Value.slice A 0 0).ownBlock = ob ∧
    ∀ j k, L[j]? = some k → ∃ g d0 d1 d2 d3, A = some ⟨g, 0, none⟩ ∧ w.cell? ⟨g, j * 4, none⟩ = some d0 ∧ w.cell? ⟨g, j * 4 + 1, none⟩ = some d1 ∧ w.cell? ⟨g, j * 4 + 2, none⟩ = some d2 ∧ w.cell? ⟨g, j * 4 + 3, none⟩ = some d3 ∧ TmC (fun g => S g ∧ ¬ Mut vb mb ob g) w k d0 d1 d2 d3 := by
  obtain ⟨A, c, D, cs, h1, h2, h3, h4, h5, h6⟩ := h.mem
  obtain ⟨A', c', e, g1, g2, g3⟩ := own4_shape h2
  cases e
  refine ⟨A, c, (Lib.cell_of_heap h1 _).trans rfl, (Lib.cell_of_heap h1 _).trans rfl, g1, by unfold maxLen at g2; omega, h3, fun j k hj => ?_⟩
  have hjl := (List.getElem?_eq_some_iff.1 hj).1
  obtain ⟨g, rfl, _, hgl⟩ := g3 (by omega)
  have hk := (Quads.kids (g := g) (off := 0) h4 fun i u hu => by
    have hi := (List.getElem?_eq_some_iff.1 hu).1
    rw [Nat.zero_add, h2.cellAt i (by rw [← h2.1]; exact hi)]
    exact hu).at j hjl
  obtain ⟨d0, d1, d2, d3, e0, e1, e2, e3, hd⟩ := hk
  rw [Nat.zero_add] at e0 e1 e2 e3
  rw [(List.getElem?_eq_some_iff.1 hj).2] at hd
  exact ⟨g, d0, d1, d2, d3, rfl, e0, e1, e2, e3, hd⟩
/-- One kid more: the list, and where it is noted. -/
theorem PI.kid (h : PI w S vb mb ob0 o m tb Lx zs us ob A c v6 wx) (hn : us.length ≤ 10000) {k : Tm} {d0 d1 d2 d3 : Value} (hk : TmC (fun g => Room w S A v6 g ∧ ¬ Mut vb mb ob g) wx k d0 d1 d2 d3) :
    ∃ A' c' w', (Builtin.append_ #[22, 22] 22 #[.slice A us.length c, .slice (some ⟨wx.heap.size, 0, none⟩) 1 1]).run Tryz.prog (wx.alloc (.cells #[d0, d1, d2, d3] 43)).drew = .ok (.slice A' (us.length + 1) c') w' ∧ w'.frozen? ⟨w.heap.size + 1, 3, none⟩ = false ∧ (∃ v, w'.cell? ⟨w.heap.size + 1, 3, none⟩ = some v) ∧ PI w S vb mb ob0 o m tb Lx zs (us ++ [k]) ob A' c' v6 (w'.setCell ⟨w.heap.size + 1, 3, none⟩ (.slice A' (us.length + 1) c')) := by
  have hz := h.size
  obtain ⟨cs, h1, h2⟩ := h.row
  obtain ⟨o0, o1, o2, o3⟩ := hk.one
  have hal : Below wx.heap.size wx (wx.alloc (.cells #[d0, d1, d2, d3] 43)).drew := (below_new _ _).drew
  have hq : (wx.alloc (.cells #[d0, d1, d2, d3] 43)).drew.heap[wx.heap.size]? = some (.cells #[d0, d1, d2, d3] 43) := heap_new_ _ _
  have hzal : wx.heap.size < (wx.alloc (.cells #[d0, d1, d2, d3] 43)).drew.heap.size := (Array.getElem?_eq_some_iff.1 hq).1
  obtain ⟨v', w', hr, ho, hg, hob⟩ := app_terms (wx.alloc (.cells #[d0, d1, d2, d3] 43)).drew (w.heap.size + 2) (.slice A us.length c) us.length cs (own_below h1 hal) ⟨wx.heap.size, 0, none⟩ 1 1 [d0, d1, d2, d3] rfl (fun u hu => by
    simp only [List.mem_cons, List.not_mem_nil, or_false] at hu
    rcases hu with rfl | rfl | rfl | rfl <;> assumption) (fun j u hu => by
    rw [Addr.add_lit, Nat.zero_add, Lib.cell_of_heap hq, ← hu]
    simp) (by omega) (by omega)
  obtain ⟨A', c', rfl, _⟩ := own4_shape ho
  rw [own_le A] at hob hg
  rw [own_le A'] at hob
  have hoff : Off (fun g => (Value.slice A 0 0).ownBlock = some g) wx w' := (Off.of_below (S := fun g => (Value.slice A 0 0).ownBlock = some g) hal).trans (Off.grown (S := fun g => (Value.slice A 0 0).ownBlock = some g) hg fun g e => e) (fun _ _ e => e) (fun _ _ e => e)
  have hown' := (hoff.block (w.heap.size + 1) (by omega) (fun e => by have := h.kb e; omega)).trans h.own
  have hne : ∀ g, g < wx.heap.size → some g ≠ (Value.slice A 0 0).ownBlock → some g ≠ (Value.slice A' 0 0).ownBlock := fun g hl hg e => by
    rcases hob with e3 | ⟨b, e3, hb⟩
    · rw [e3] at e; exact hg e
    · rw [e3] at e; cases e; omega
  have hset := Off.set (S := fun g => g = w.heap.size + 1) w' (w.heap.size + 1) 3 (.slice A' (us.length + 1) c') rfl
  have hoff2 : Off (fun g => (Value.slice A 0 0).ownBlock = some g ∨ g = w.heap.size + 1) wx (w'.setCell ⟨w.heap.size + 1, 3, none⟩ (.slice A' (us.length + 1) c')) := hoff.trans hset (fun _ _ e => .inl e) (fun _ _ e => .inr e)
  have hroom : ∀ g, Room w S A v6 g → ¬ ((Value.slice A 0 0).ownBlock = some g ∨ g = w.heap.size + 1) := fun g hg e => by
    rcases e with e | e
    · exact hg.2.1 e.symm
    · rcases hg.1 with h1 | h1
      · have := h.bd g h1; omega
      · omega
  have hst : Stays (fun g => Room w S A v6 g ∧ ¬ Mut vb mb ob g) wx (w'.setCell ⟨w.heap.size + 1, 3, none⟩ (.slice A' (us.length + 1) c')) := hoff2.stays fun g _ hg => hroom g hg.1
  have hto : ∀ g, (Room w S A v6 g ∧ ¬ Mut vb mb ob g) → g < wx.heap.size → Room w S A' v6 g ∧ ¬ Mut vb mb ob g := fun g hg hl => ⟨⟨hg.1.1, hne g hl hg.1.2.1, hg.1.2.2⟩, hg.2⟩
  refine ⟨A', c', w', hr, Lib.frozen_of_heap hown' _, ⟨.slice A us.length c, (Lib.cell_of_heap hown' _).trans rfl⟩, h.bd, ?_, h.hob, ?_, ?_, ?_, ⟨cs ++ [d0, d1, d2, d3], ?_, ?_⟩, ?_, ?_⟩
  · exact ((h.vlt.bound).off hoff2 fun g hl hg => hroom g hg.1).mono fun g hg => ⟨hg.1.1, hne g hg.2 hg.1.2.1, hg.1.2.2⟩
  · exact h.off.trans hoff2 (fun _ _ e => e) (fun g hl e => by
      rcases e with e | e
      · have := h.kb e; omega
      · omega)
  · exact (hoff2.block _ (by omega) (fun e => by
      rcases e with e | e
      · have := h.kb e; omega
      · omega)).trans h.box
  · rw [List.length_append]
    exact set_heap _ _ 3 _ _ _ _ hown'
  · rw [List.length_append]
    exact own_same ho fun g hg => hset.block g (ho.lt g hg).2 (fun e => by
      have hg : (Value.slice A' 0 0).ownBlock = some g := (own_le A' (us.length + 1) c').symm.trans hg
      rcases hob with e3 | ⟨b, e3, hb⟩
      · rw [e3] at hg; have := h.kb hg; omega
      · rw [e3] at hg; cases hg; omega)
  · exact Quads.snoc (TmC.below2 hst hk hto) (Quads.below2 hst hto h2)
  · exact own_same h.nums fun g hg => hoff2.block g (h.nums.lt g hg).2 (fun e => by
      rcases e with e | e
      · exact h.ne g e hg
      · have := h.nb hg; omega)
  · intro g hg e
    rcases hob with e3 | ⟨b, e3, hb⟩
    · rw [e3] at hg; exact h.ne g hg e
    · rw [e3] at hg
      cases hg
      have := h.nb e
      omega
end
end Go.Proofs.YtlhogjigdmpokaaGreatDoor.vtc
namespace Go.Proofs.YtlhogjigdmpokaaGreatDoor.vtc
open Go.RowKit Go.Proofs.YtlhogjigdmpokaaGreatDoor.tlvc Go.Proofs.YtlhogjigdmpokaaGreatDoor.tmc
set_option linter.unusedVariables false
theorem wpl_update {P : Program} {w w' : World} {ops : Array Oper} {rest : List Oper} {o : Oper} {a : Act} {Q : Exit → Act → World → Prop} (hg : o.guard = none) (m x v : Operand) (t : TypeId) (hop : o.op = Op.mapUpdate t m x v) (vm vx vv : Value) (hm : a.eval m = vm) (hx : a.eval x = vx) (hv : a.eval v = vv)
    (hrun : (Instr.mapUpdate t vm vx vv).run P w = .ok () w') (h : wpList P ops Q rest (a.put o.dst undef) w') : wpList P ops Q (o :: rest) a w := by
  refine wpList_plain hg fun K' hK' => ?_
  unfold Oper.wp
  simp [execOp, hop, hm, hx, hv, hrun, Result.andThen]
  exact hK' _ _ h
theorem set_comm (w : World) (g b i j : Nat) (u v : Value) (h : g ≠ b) : (w.setCell ⟨b, j, none⟩ v).setCell ⟨g, i, none⟩ u = (w.setCell ⟨g, i, none⟩ u).setCell ⟨b, j, none⟩ v := by
  have e : ((w.setCell ⟨b, j, none⟩ v).setCell ⟨g, i, none⟩ u).heap = ((w.setCell ⟨g, i, none⟩ u).setCell ⟨b, j, none⟩ v).heap := by
    apply Array.ext_getElem?
    intro k
    by_cases h1 : k = g
    · subst h1
      rw [set_heap_other (w.setCell ⟨k, i, none⟩ u) b j k v h]
      simp only [World.setCell, Array.getElem?_modify]
      simp [Ne.symm h]
    · rw [set_heap_other (w.setCell ⟨b, j, none⟩ v) g i k u h1]
      by_cases h2 : k = b
      · subst h2
        simp only [World.setCell, Array.getElem?_modify]
        simp [h]
      · rw [set_heap_other w b j k v h2, set_heap_other _ b j k v h2, set_heap_other w g i k u h1]
  show ({ (w.setCell ⟨b, j, none⟩ v).setCell ⟨g, i, none⟩ u with heap := ((w.setCell ⟨b, j, none⟩ v).setCell ⟨g, i, none⟩ u).heap } : World) = _
  rw [e]
  rfl
theorem set4_comm (w : World) (g b i j : Nat) (y0 y1 y2 y3 v : Value) (h : g ≠ b) : set4 (w.setCell ⟨b, j, none⟩ v) g i y0 y1 y2 y3 = (set4 w g i y0 y1 y2 y3).setCell ⟨b, j, none⟩ v := by
  unfold set4
  rw [set_comm w g b i j y0 v h, set_comm _ g b (i + 1) j y1 v h, set_comm _ g b (i + 2) j y2 v h, set_comm _ g b (i + 3) j y3 v h]
theorem wf_small (n : Nat) (h : n ≤ 4096) : (Lit.int .i64 (n : Int)).wf = true := by
  show (decide (IntKind.i64.min ≤ (n : Int)) && decide ((n : Int) ≤ IntKind.i64.max)) = true
  have h1 : IntKind.i64.min = -9223372036854775808 := by decide
  have h2 : IntKind.i64.max = 9223372036854775807 := by decide
  rw [h1, h2, Bool.and_eq_true, decide_eq_true_iff, decide_eq_true_iff]
  omega
theorem closed_snoc {L : List Tm} (h : Closed L) {t : Tm} (ht : KidsIn L t) : Closed (L ++ [t]) := fun i o' m' d' ks' e k hk => by
  rcases Nat.lt_or_ge i L.length with hl | hl
  · rw [List.getElem?_append_left hl] at e
    obtain ⟨j, hj, ej⟩ := h i o' m' d' ks' e k hk
    exact ⟨j, hj, by rw [List.getElem?_append_left (by omega)]; exact ej⟩
  · have hi : i = L.length := by
      have := (List.getElem?_eq_some_iff.1 e).1
      rw [List.length_append] at this
      simp at this
      omega
    subst hi
    rw [List.getElem?_append_right (Nat.le_refl _), Nat.sub_self] at e
    cases e
    obtain ⟨j, hj⟩ := List.getElem?_of_mem (ht k hk)
    have hjl := (List.getElem?_eq_some_iff.1 hj).1
    exact ⟨j, hjl, by rw [List.getElem?_append_left hjl]; exact hj⟩
section
variable {w : World} {S : Nat → Prop} {vb mb : Nat} {ob0 : Option Nat} {o m : Int} {tb : Obj} {Lx : List Tm} {zs : List Int} {us : List Tm} {ob : Option Nat} {A : Option Addr} {c : Nat} {v6 : Value} {w1 : World}
theorem PI.last (h : PI w S vb mb ob0 o m tb Lx zs us ob A c v6 w1) {w2 : World} (hb : Below w1.heap.size w1 w2) {A2 : Option Addr} {la c2 : Nat} {d : List Int} (hd : Bys w2 A2 la d) (hlc : la ≤ c2) (hcm : c2 ≤ maxLen) (hfar : ∀ g off sp, A2 = some ⟨g, off, sp⟩ → w1.heap.size ≤ g)
    (hnot : Tm.mk o m d us ∉ Lx) (hkin : ∀ k ∈ us, k ∈ Lx) (hr : rightF (.mk o m d us) 0 = true) (ho : I64 o) (hm : I64 m) (hl : Lx.length + 1 ≤ 4096) (hkey : (keyT Lx (.mk o m d us)).length ≤ 1000000) :
    ∃ A9 c9 g10 c10 w5 w8, (w2.frozen? ⟨w.heap.size + 1, 2, none⟩ = false ∧ ∃ v, w2.cell? ⟨w.heap.size + 1, 2, none⟩ = some v) ∧
      (∀ W : World, (W = w2.setCell ⟨w.heap.size + 1, 2, none⟩ (.slice A2 la c2) ∨ W = (w2.setCell ⟨w.heap.size + 1, 2, none⟩ (.slice A2 la c2)).alloc (.cells #[.int .i64 0, .int .i64 0, .slice none 0 0, .slice none 0 0] 43) ∨ W = w5) → W.cell? ⟨w.heap.size + 1, 0, none⟩ = some (.int .i64 o) ∧ W.cell? ⟨w.heap.size + 1, 1, none⟩ = some (.int .i64 m) ∧ W.cell? ⟨w.heap.size + 1, 2, none⟩ = some (.slice A2 la c2) ∧ W.cell? ⟨w.heap.size + 1, 3, none⟩ = some (.slice A us.length c)) ∧
      ((w2.setCell ⟨w.heap.size + 1, 2, none⟩ (.slice A2 la c2)).cell? ⟨vb, 0, none⟩ = some (.slice A9 Lx.length c9) ∧ Lx.length ≤ c9 ∧ c9 ≤ 9223372036854775807) ∧
      ((Builtin.append_ #[22, 22] 22 #[.slice A9 Lx.length c9, .slice (some ⟨(w2.setCell ⟨w.heap.size + 1, 2, none⟩ (.slice A2 la c2)).heap.size, 0, none⟩) 1 1]).run Tryz.prog ((w2.setCell ⟨w.heap.size + 1, 2, none⟩ (.slice A2 la c2)).alloc (.cells #[.int .i64 0, .int .i64 0, .slice none 0 0, .slice none 0 0] 43)).drew = .ok (.slice (some ⟨g10, 0, none⟩) (Lx.length + 1) c10) w5 ∧ Lx.length + 1 ≤ c10 ∧ c10 ≤ 9223372036854775807) ∧
      ((∀ j, w5.frozen? ⟨g10, j, none⟩ = false) ∧ w5.cell? ⟨g10, Lx.length * 4, none⟩ = some (.int .i64 0) ∧ w5.cell? ⟨g10, Lx.length * 4 + 1, none⟩ = some (.int .i64 0) ∧ w5.cell? ⟨g10, Lx.length * 4 + 2, none⟩ = some (.slice none 0 0) ∧ w5.cell? ⟨g10, Lx.length * 4 + 3, none⟩ = some (.slice none 0 0)) ∧
      (g10 ≠ vb ∧ w5.frozen? ⟨vb, 0, none⟩ = false ∧ w5.cell? ⟨vb, 0, none⟩ = some (.slice A9 Lx.length c9)) ∧
      (w5.cell? ⟨vb, 1, none⟩ = some (.map (some mb)) ∧ ((set4 w5 g10 (Lx.length * 4) (.int .i64 o) (.int .i64 m) (.slice A2 la c2) (.slice A us.length c)).setCell ⟨vb, 0, none⟩ (.slice (some ⟨g10, 0, none⟩) (Lx.length + 1) c10)).cell? ⟨vb, 1, none⟩ = some (.map (some mb))) ∧
      (Instr.mapUpdate 75 (.map (some mb)) (.string (strOfNums (keyT Lx (.mk o m d us)))) (.int .i64 (Lx.length : Nat))).run Tryz.prog ((set4 w5 g10 (Lx.length * 4) (.int .i64 o) (.int .i64 m) (.slice A2 la c2) (.slice A us.length c)).setCell ⟨vb, 0, none⟩ (.slice (some ⟨g10, 0, none⟩) (Lx.length + 1) c10)) = .ok () w8 ∧
      Vlt (fun g => S g ∨ w.heap.size ≤ g) w8 vb mb (some g10) (Lx ++ [.mk o m d us]) ∧ (some g10 = ob0 ∨ ∃ g, some g10 = some g ∧ w.heap.size ≤ g) ∧ Off (Mut vb mb ob0) w w8 := by
  have hz := h.size
  have hbs := hb.size
  have hbox2 := (hb.block (w.heap.size + 1) (by omega)).trans h.own
  obtain ⟨w3, hw3⟩ : ∃ x, w2.setCell ⟨w.heap.size + 1, 2, none⟩ (.slice A2 la c2) = x := ⟨_, rfl⟩
  have hbox3 := set_heap w2 (w.heap.size + 1) 2 (.slice A2 la c2) _ _ _ hbox2
  have hset3 := Off.set (S := fun g => g = w.heap.size + 1) w2 (w.heap.size + 1) 2 (.slice A2 la c2) rfl
  rw [hw3] at hbox3 hset3 ⊢
  have hs23 : w3.heap.size = w2.heap.size := by rw [← hw3, set_size]
  have hoffA : Off (fun g => g = w.heap.size + 1) w1 w3 := (Off.of_below (S := fun g => g = w.heap.size + 1) hb).trans hset3 (fun _ _ e => e) (fun _ _ e => e)
  have hV3 := (h.vlt.bound).off hoffA fun g hl hg e => by
    subst e
    rcases hg.1.1 with h1 | h1
    · have := h.bd _ h1; omega
    · omega
  obtain ⟨A9, c9, D, cs, m1, m2, m3, m4, m5, m6⟩ := hV3.mem
  obtain ⟨A9', c9', e9, k1, k2, _⟩ := own4_shape m2
  cases e9
  have hcl : cs.length = Lx.length * 4 := Quads.len m4
  have hal : Below w3.heap.size w3 (w3.alloc (.cells #[.int .i64 0, .int .i64 0, .slice none 0 0, .slice none 0 0] 43)).drew := (below_new _ _).drew
  have hq : (w3.alloc (.cells #[.int .i64 0, .int .i64 0, .slice none 0 0, .slice none 0 0] 43)).drew.heap[w3.heap.size]? = some (.cells #[.int .i64 0, .int .i64 0, .slice none 0 0, .slice none 0 0] 43) := heap_new_ _ _
  have hzal : w3.heap.size < (w3.alloc (.cells #[.int .i64 0, .int .i64 0, .slice none 0 0, .slice none 0 0] 43)).drew.heap.size := (Array.getElem?_eq_some_iff.1 hq).1
  obtain ⟨v', w5, hrun, ho5, hg5, hob5⟩ := app_terms (w3.alloc (.cells #[.int .i64 0, .int .i64 0, .slice none 0 0, .slice none 0 0] 43)).drew 0 (.slice A9 Lx.length c9) Lx.length cs (own_below m2 hal) ⟨w3.heap.size, 0, none⟩ 1 1 [.int .i64 0, .int .i64 0, .slice none 0 0, .slice none 0 0] rfl (fun u hu => by
    simp only [List.mem_cons, List.not_mem_nil, or_false] at hu
    rcases hu with rfl | rfl | rfl | rfl <;> rfl) (fun j u hu => by
    rw [Addr.add_lit, Nat.zero_add, Lib.cell_of_heap hq, ← hu]
    simp) (by omega) (Nat.zero_le _)
  obtain ⟨A10, c10, rfl, k3, k4, k5⟩ := own4_shape ho5
  obtain ⟨g10, rfl, _, hg10⟩ := k5 (by omega)
  rw [own_le A9, m3] at hob5 hg5
  have hnew : ob = some g10 ∨ w3.heap.size ≤ g10 := by
    rcases hob5 with e | ⟨g', e, hg'⟩
    · exact .inl e.symm
    · have e : some g10 = some g' := e
      cases e
      exact .inr (by omega)
  have hoblt : ∀ g, ob = some g → g < w1.heap.size := fun g e => h.vlt.lt (.inr (.inr e))
  have hvblt : vb < w1.heap.size := h.vlt.lt (.inl rfl)
  have hmblt : mb < w1.heap.size := h.vlt.lt (.inr (.inl rfl))
  have h10 : g10 ≠ vb ∧ g10 ≠ mb := by
    rcases hnew with e | e
    · exact ⟨fun e2 => h.vlt.apart.2.1 (by rw [e, e2]), fun e2 => h.vlt.apart.2.2 (by rw [e, e2])⟩
    · exact ⟨by omega, by omega⟩
  have hoffB : Off (fun g => ob = some g) w3 w5 := (Off.of_below (S := fun g => ob = some g) hal).trans (Off.grown (S := fun g => ob = some g) hg5 fun g e => e) (fun _ _ e => e) (fun _ _ e => e)
  obtain ⟨w6, hw6⟩ : ∃ x, set4 w5 g10 (Lx.length * 4) (.int .i64 o) (.int .i64 m) (.slice A2 la c2) (.slice A us.length c) = x := ⟨_, rfl⟩
  have hoffC := Off.set4 (S := fun g => g = g10) w5 g10 (Lx.length * 4) (.int .i64 o) (.int .i64 m) (.slice A2 la c2) (.slice A us.length c) rfl
  have hrow6 := set4_own (W := w5) (a := cs) (r := []) ho5 (.int .i64 o) (.int .i64 m) (.slice A2 la c2) (.slice A us.length c)
  rw [hcl, hw6, List.append_nil] at hrow6
  rw [hw6] at hoffC
  have hoffD := Off.set (S := fun g => g = vb) w6 vb 0 (.slice (some ⟨g10, 0, none⟩) (Lx.length + 1) c10) rfl
  have hvb5 : w5.heap[vb]? = some (.cells #[.slice A9 Lx.length c9, .map (some mb)] 77) := (hoffB.block vb (by omega) (fun e => h.vlt.apart.2.1 e)).trans m1
  have hs56 : w6.heap.size = w5.heap.size := by rw [← hw6, set4_size]
  have hs35 := hoffB.size
  have hvb6 := (hoffC.block vb (by omega) (fun e => h10.1 e.symm)).trans hvb5
  have hvb7 := set_heap w6 vb 0 (.slice (some ⟨g10, 0, none⟩) (Lx.length + 1) c10) _ _ _ hvb6
  obtain ⟨w7, hw7⟩ : ∃ x, w6.setCell ⟨vb, 0, none⟩ (.slice (some ⟨g10, 0, none⟩) (Lx.length + 1) c10) = x := ⟨_, rfl⟩
  rw [hw7] at hoffD hvb7
  have hs67 : w7.heap.size = w6.heap.size := by rw [← hw7, set_size]
  have hmap7 : w7.ownsMap Tryz.prog 9 (plainElem Tryz.prog 3) mb Lx.length D := map_same m5 ((hoffD.block mb (by omega) (fun e => h.vlt.apart.1 e.symm)).trans ((hoffC.block mb (by omega) (fun e => h10.2 e.symm)).trans (hoffB.block mb (by omega) (fun e => h.vlt.apart.2.2 e))))
  have hfit : FitT (.mk o m d us) := hd.2.1
  obtain ⟨w8, hup, hmap8, hg8⟩ := hmap7.update (Maps.string_keyed Tryz.underlying9) Tryz.underlying75 (by unfold maxLen; omega) (key_of _ hkey) (plainElem_int (a := (Lx.length : Nat)) Tryz.underlying3 (wf_small _ (by omega)))
  have hoffE : Off (fun g => g = mb) w7 w8 := Off.grown hg8 fun g e => (Option.some.inj e).symm
  have hown3 : ∀ W : World, W.heap[w.heap.size + 1]? = w3.heap[w.heap.size + 1]? → W.cell? ⟨w.heap.size + 1, 0, none⟩ = some (.int .i64 o) ∧ W.cell? ⟨w.heap.size + 1, 1, none⟩ = some (.int .i64 m) ∧ W.cell? ⟨w.heap.size + 1, 2, none⟩ = some (.slice A2 la c2) ∧ W.cell? ⟨w.heap.size + 1, 3, none⟩ = some (.slice A us.length c) := fun W hW => by
    have e := hW.trans hbox3
    exact ⟨(Lib.cell_of_heap e _).trans rfl, (Lib.cell_of_heap e _).trans rfl, (Lib.cell_of_heap e _).trans rfl, (Lib.cell_of_heap e _).trans rfl⟩
  have hz5 : ∀ i u, i < 4 → ([.int .i64 0, .int .i64 0, .slice none 0 0, .slice none 0 0] : List Value)[i]? = some u → w5.cell? ⟨g10, Lx.length * 4 + i, none⟩ = some u := fun i u hi hu => by
    rw [ho5.cellAt (Lx.length * 4 + i) (by omega), List.getElem?_append_right (by omega), hcl, Nat.add_sub_cancel_left, hu]
  have hall8 : Off (fun g => ob = some g ∨ g = g10 ∨ g = vb ∨ g = mb) w3 w8 := ((hoffB.trans hoffC (S'' := fun g => ob = some g ∨ g = g10 ∨ g = vb ∨ g = mb) (fun _ _ e => .inl e) (fun _ _ e => .inr (.inl e))).trans hoffD (S'' := fun g => ob = some g ∨ g = g10 ∨ g = vb ∨ g = mb) (fun _ _ e => e) (fun _ _ e => .inr (.inr (.inl e)))).trans hoffE (fun _ _ e => e) (fun _ _ e => .inr (.inr (.inr e)))
  have hout : ∀ g, g < w3.heap.size → ¬ Mut vb mb ob g → ¬ (ob = some g ∨ g = g10 ∨ g = vb ∨ g = mb) := fun g hgl hg e => by
    rcases e with e | e | e | e
    · exact hg (.inr (.inr e))
    · rcases hnew with e2 | e2
      · exact hg (.inr (.inr (by rw [e2, e])))
      · omega
    · exact hg (.inl e)
    · exact hg (.inr (.inl e))
  have hmut : ∀ g, g < w3.heap.size → ¬ Mut vb mb ob g → ¬ Mut vb mb (some g10) g := fun g hgl hg e => by
    rcases e with e | e | e
    · exact hg (.inl e)
    · exact hg (.inr (.inl e))
    · have e : g10 = g := Option.some.inj e
      exact hout g hgl hg (.inr (.inl e.symm))
  refine ⟨A9, c9, g10, c10, w5, w8, ⟨Lib.frozen_of_heap hbox2 _, _, (Lib.cell_of_heap hbox2 _).trans rfl⟩, ?_, ⟨(Lib.cell_of_heap m1 _).trans rfl, k1, by unfold maxLen at k2; omega⟩, ⟨hrun, k3, by unfold maxLen at k4; omega⟩, ⟨fun j => ho5.frozenAt j, hz5 0 _ (by omega) rfl, hz5 1 _ (by omega) rfl, hz5 2 _ (by omega) rfl, hz5 3 _ (by omega) rfl⟩, ⟨h10.1, Lib.frozen_of_heap hvb5 _, (Lib.cell_of_heap hvb5 _).trans rfl⟩, ⟨(Lib.cell_of_heap hvb5 _).trans rfl, by rw [hw6, hw7]; exact (Lib.cell_of_heap hvb7 _).trans rfl⟩, by rw [hw6, hw7]; exact hup, ?_, ?_, ?_⟩
  · rintro W (rfl | rfl | rfl)
    · exact hown3 _ rfl
    · exact hown3 _ (heap_old_ _ _ (by omega))
    · exact hown3 _ (hoffB.block _ (by omega) (fun e => (h.mut (.inr (.inr e))).2.1 rfl))
  · refine ⟨⟨some ⟨g10, 0, none⟩, c10, _, cs ++ [.int .i64 o, .int .i64 m, .slice A2 la c2, .slice A us.length c], ?_, ?_, rfl, ?_, ?_, m6.put hV3.closed hV3.fit hkin hfit hnot⟩, ?_, ⟨h.vlt.apart.1, fun e => h10.1 (Option.some.inj e), fun e => h10.2 (Option.some.inj e)⟩, once_snoc h.vlt.once hnot, closed_snoc h.vlt.closed hkin, ?_, ?_, ?_⟩
    · rw [List.length_append]
      exact (hoffE.block vb (by omega) h.vlt.apart.1).trans hvb7
    · rw [List.length_append]
      refine own_same hrow6 fun g hg => ?_
      have hg : some g10 = some g := hg
      cases hg
      exact (hoffE.block g10 (by omega) h10.2).trans (hoffD.block g10 (by omega) h10.1)
    · refine Quads.snoc ?_ (Quads.below2 (hall8.stays fun g hgl hg => hout g hgl hg.2) (fun g hg hgl => ⟨?_, hmut g hgl hg.2⟩) m4)
      · have hk2 : TmC (fun g => (S g ∨ w.heap.size + 2 ≤ g) ∧ ¬ Mut vb mb ob g) w2 (.mk o m d us) (.int .i64 o) (.int .i64 m) (.slice A2 la c2) (.slice A us.length c) := by
          obtain ⟨cs1, r1, r2⟩ := h.row
          obtain ⟨A', c', e, q1, q2, q3⟩ := own4_shape r1
          cases e
          unfold TmC
          refine ⟨rfl, ho, rfl, hm, ⟨A2, la, c2, rfl, hlc, hcm, hd, fun _ g off sp e => ⟨.inr (by have := hfar g off sp e; omega), fun hmu => ?_⟩⟩, A, c, rfl, q1, q2, fun hpos => ?_⟩
          · have h1 := hfar g off sp e
            have h2 := h.vlt.lt hmu
            omega
          · obtain ⟨g, rfl, hgl, hgr⟩ := q3 hpos
            refine ⟨g, 0, rfl, by omega, ⟨.inr hgl, fun hmu => (h.mut hmu).2.2.1 rfl⟩, KidsC.below hb hgr ⟨.inr hgl, fun hmu => (h.mut hmu).2.2.1 rfl⟩ _ _ (Quads.kids (r2.mono fun g hg => ⟨hg.1.1, hg.2⟩) fun j u hu => ?_)⟩
            have hj := (List.getElem?_eq_some_iff.1 hu).1
            rw [Nat.zero_add, r1.cellAt j (by rw [← r1.1]; exact hj)]
            exact hu
        have hoff28 : Off (fun g => g = w.heap.size + 1 ∨ ob = some g ∨ g = g10 ∨ g = vb ∨ g = mb) w2 w8 := hset3.trans hall8 (fun _ _ e => .inl e) (fun _ _ e => .inr e)
        refine TmC.below2 (hoff28.stays fun g hgl hg e => ?_) hk2 fun g hg hgl => ⟨hg.1.imp id fun e => by omega, hmut g (by omega) hg.2⟩
        rcases e with e | e
        · rcases hg.1 with h1 | h1
          · have := h.bd g h1; omega
          · omega
        · exact hout g (by omega) hg.2 e
      · exact hg.1.1.1.imp id fun e => by omega
    · rw [List.length_append]
      exact hmap8
    · intro g hg
      have hS : ∀ g, Mut vb mb ob g → S g ∨ w.heap.size ≤ g := fun g hg => (h.vlt.all g hg).1.imp id fun e => by omega
      rcases hg with e | e | e
      · exact hS g (.inl e)
      · exact hS g (.inr (.inl e))
      · have e : g10 = g := Option.some.inj e
        subst e
        rcases hnew with e2 | e2
        · exact hS g10 (.inr (.inr e2))
        · exact .inr (by omega)
    · intro t ht
      rcases List.mem_append.1 ht with ht | ht
      · exact h.vlt.right t ht
      · rw [List.mem_singleton.1 ht]; exact hr
    · intro t ht
      rcases List.mem_append.1 ht with ht | ht
      · exact h.vlt.fit t ht
      · rw [List.mem_singleton.1 ht]; exact hfit
    · rw [List.length_append]; exact hl
  · rcases hnew with e | e
    · rcases h.hob with e2 | ⟨g, e2, hg⟩
      · exact .inl (e ▸ e2)
      · exact .inr ⟨g, e ▸ e2, hg⟩
    · exact .inr ⟨g10, rfl, by omega⟩
  · refine (h.off.trans hoffA (S'' := Mut vb mb ob0) (fun _ _ e => e) (fun g hgl e => by omega)).trans hall8 (fun _ _ e => e) (fun g hgl e => ?_)
    rcases e with e | e | e | e
    · exact h.old hgl (.inr (.inr e))
    · rcases hnew with e2 | e2
      · exact h.old hgl (.inr (.inr (by rw [e2, e])))
      · omega
    · exact .inl e
    · exact .inr (.inl e)
end
end Go.Proofs.YtlhogjigdmpokaaGreatDoor.vtc
namespace Go.Proofs.YtlhogjigdmpokaaGreatDoor.vtc
open Go.RowKit Go.Proofs.YtlhogjigdmpokaaGreatDoor.tlvc Go.Proofs.YtlhogjigdmpokaaGreatDoor.tmc
set_option linter.unusedVariables false
theorem Off.tab {S : Nat → Prop} {w w' : World} {base : Nat} (h : Off S w w') (hS : ∀ g, S g → base ≤ g) (hs : base ≤ w.heap.size) (ht : txc.Tab base w) : txc.Tab base w' := ht.on (h.below hS hs)
theorem puts_had : ∀ {ks L : List Tm}, (∀ k ∈ ks, k ∈ L) → putsV ks L = L
  | [], L, _ => putsV_nil L
  | k :: ks, L, h => by
    rw [putsV_cons, putV_had (h k (by simp))]
    exact puts_had fun x hx => h x (List.mem_cons_of_mem _ hx)
theorem put_back {o m : Int} {d : List Int} {ks L : List Tm} (h : Tm.mk o m d ks ∈ putsV ks L) : Tm.mk o m d ks ∈ L := by
  rcases (puts_ones ks L).size _ h with h1 | h1
  · exact h1
  · rw [szT_kids] at h1
    omega
theorem put_old {o m : Int} {d : List Int} {ks L : List Tm} (hc : Closed L) (h : Tm.mk o m d ks ∈ putsV ks L) : putV (.mk o m d ks) L = putsV ks L := by
  have h1 := put_back h
  rw [putV_had h1, puts_had (closed_kids hc h1)]
theorem put_fresh {o m : Int} {d : List Int} {ks L : List Tm} (h : Tm.mk o m d ks ∉ putsV ks L) : putV (.mk o m d ks) L = putsV ks L ++ [.mk o m d ks] :=
  putV_new fun e => h (prefix_mem (puts_ones ks L).pre e)
theorem find_last {t : Tm} {L : List Tm} (h : t ∉ L) : findV t (L ++ [t]) = some L.length := by
  induction L with
  | nil =>
    show findV t [t] = some 0
    unfold findV
    rw [if_pos (alike_iff.2 rfl)]
  | cons x L ih =>
    rw [List.cons_append]
    unfold findV
    rw [if_neg fun e => h (by rw [alike_iff.1 e]; simp), ih fun e => h (List.mem_cons_of_mem _ e)]
    rfl
theorem map_nil (mb : Nat) (w : World) : (binOp BinOp.eql 75 (Value.map (some mb)) (Value.map none)).run Tryz.prog w = .ok (.bool false) w := by
  exact run_eql_map_nil w _ _ _ (some mb) Tryz.underlying75
theorem len_cell (vb n c : Nat) (A : Option Addr) (w : World) (h : w.cell? ⟨vb, 0, none⟩ = some (.slice A n c)) : Calls Tryz.prog 16 #[.pointer (some ⟨vb, 0, none⟩)] w fun e w' => e = .returned (.int .i64 n) ∧ w' = w := by
  go_enter Tryz.func16, Tryz.ntmps16
  go_wp2
  go_ret
  exact ⟨rfl, rfl⟩
def PutsAt (t : Tm) : Prop := ∀ (S B : Nat → Prop) (base vb mb : Nat) (ob : Option Nat) (L : List Tm) (v : Value) (w : World), Vlt S w vb mb ob L → TmV B w t v → (∀ g, B g → ¬ Mut vb mb ob g) → txc.Tab base w → base ≤ w.heap.size → (∀ g, Mut vb mb ob g → base ≤ g) → L.length + szT t ≤ 4096 →
    Calls Tryz.prog 46 #[.pointer (some ⟨vb, 0, none⟩), v] w fun e w' => ∃ (i : Nat) (ob' : Option Nat), e = .returned (.int .i64 i) ∧ findV t (putV t L) = some i ∧ Vlt (fun g => S g ∨ w.heap.size ≤ g) w' vb mb ob' (putV t L) ∧ (ob' = ob ∨ ∃ g, ob' = some g ∧ w.heap.size ≤ g) ∧ Off (Mut vb mb ob) w w'
/-- The rounds' relation. -/
structure PR (w : World) (S : Nat → Prop) (vb mb : Nat) (ob0 : Option Nat) (o m : Int) (tb : Obj) (L ks : List Tm) (i : Nat) (ob : Option Nat) (A : Option Addr) (c : Nat) (v6 : Value) (wx : World) : Prop where
  pi : PI w S vb mb ob0 o m tb (putsV (ks.take i) L) (kidsN (putsV (ks.take i) L) (ks.take i)) (ks.take i) ob A c v6 wx
theorem PR.slice {w : World} {S : Nat → Prop} {vb mb : Nat} {ob0 : Option Nat} {o m : Int} {tb : Obj} {L ks : List Tm} {i : Nat} {ob : Option Nat} {A : Option Addr} {c : Nat} {v6 : Value} {wx : World} (h : PR w S vb mb ob0 o m tb L ks i ob A c v6 wx) (hi : i ≤ ks.length) :
    (∃ A6 c6, v6 = .slice A6 i c6) ∧ wx.cell? ⟨w.heap.size + 1, 3, none⟩ = some (.slice A i c) := by
  have hl : (ks.take i).length = i := by rw [List.length_take]; omega
  obtain ⟨A6, c6, e, _⟩ := own_shape h.pi.nums
  rw [kidsN_len, hl] at e
  refine ⟨⟨A6, c6, e⟩, (Lib.cell_of_heap h.pi.own _).trans ?_⟩
  rw [hl]
  rfl
/-- Behind a kid's put. -/
theorem PR.step {w : World} {S : Nat → Prop} {vb mb : Nat} {ob0 : Option Nat} {o m : Int} {tb : Obj} {L ks : List Tm} {i : Nat} {ob : Option Nat} {A : Option Addr} {c : Nat} {v6 : Value} {wx wn w5 : World} (h : PR w S vb mb ob0 o m tb L ks i ob A c v6 wx) (hn : ks.length ≤ 10000) (hb : Below wx.heap.size wx wn) {k : Tm} (hki : ks[i]? = some k) {j : Nat} {ob5 : Option Nat}
    (hj : findV k (putV k (putsV (ks.take i) L)) = some j) (hV : Vlt (fun g => Room w S A v6 g ∨ wn.heap.size ≤ g) w5 vb mb ob5 (putV k (putsV (ks.take i) L))) (hob5 : ob5 = ob ∨ ∃ g, ob5 = some g ∧ wn.heap.size ≤ g) (hoff : Off (Mut vb mb ob) wn w5) :
    j < 4096 ∧ ∃ v7 w6 A9 c9 l9 g9 d0 d1 d2 d3 A' c' w', (Builtin.append_ #[23, 23] 23 #[v6, .slice (some ⟨w5.heap.size, 0, none⟩) 1 1]).run Tryz.prog (w5.alloc (.cells #[.int .i64 j] 3)) = .ok v7 w6 ∧
      (w6.cell? ⟨w.heap.size + 1, 3, none⟩ = some (.slice A i c) ∧ w6.cell? ⟨vb, 0, none⟩ = some (.slice (some ⟨g9, 0, none⟩) l9 c9) ∧ w6.cell? ⟨g9, j * 4, none⟩ = some d0 ∧ w6.cell? ⟨g9, j * 4 + 1, none⟩ = some d1 ∧ w6.cell? ⟨g9, j * 4 + 2, none⟩ = some d2 ∧ w6.cell? ⟨g9, j * 4 + 3, none⟩ = some d3 ∧ j < l9 ∧ l9 ≤ c9 ∧ c9 ≤ 9223372036854775807 ∧ A9 = some (⟨g9, 0, none⟩ : Addr)) ∧ (∃ o5 m5 A5 la5 ca5 K5 lk5 ck5, d0 = .int .i64 o5 ∧ d1 = .int .i64 m5 ∧ d2 = .slice A5 la5 ca5 ∧ d3 = .slice K5 lk5 ck5) ∧
      (Builtin.append_ #[22, 22] 22 #[.slice A i c, .slice (some ⟨w6.heap.size, 0, none⟩) 1 1]).run Tryz.prog (w6.alloc (.cells #[d0, d1, d2, d3] 43)).drew = .ok (.slice A' (i + 1) c') w' ∧ w'.frozen? ⟨w.heap.size + 1, 3, none⟩ = false ∧ (∃ v, w'.cell? ⟨w.heap.size + 1, 3, none⟩ = some v) ∧ PR w S vb mb ob0 o m tb L ks (i + 1) ob5 A' c' v7 (w'.setCell ⟨w.heap.size + 1, 3, none⟩ (.slice A' (i + 1) c')) := by
  have hil := (List.getElem?_eq_some_iff.1 hki).1
  have hl : (ks.take i).length = i := by rw [List.length_take]; omega
  have hp5 := (h.pi.below hb).call hV hob5 hoff
  have hjl := findV_lt hj
  have hlen := hV.len
  obtain ⟨v7, w6, hrun, hp6⟩ := hp5.num j (by unfold I64; omega) (by rw [kidsN_len, hl]; omega)
  obtain ⟨A9, c9, x0, x1, x2, x3, x4, x5⟩ := hp6.vlt.at
  obtain ⟨g9, d0, d1, d2, d3, rfl, e0, e1, e2, e3, hd⟩ := x5 j k (findV_some hj).1
  obtain ⟨A', c', w', hrun2, hf, hc, hp9⟩ := hp6.kid (by rw [hl]; omega) hd
  obtain ⟨o5, m5, A5, la5, ca5, K5, lk5, ck5, q0, q1, q2, q3⟩ := hd.shape
  rw [hl] at hrun2 hp9
  have h3 := (Lib.cell_of_heap hp6.own 3).trans rfl
  rw [hl] at h3
  refine ⟨by omega, v7, w6, some ⟨g9, 0, none⟩, c9, _, g9, d0, d1, d2, d3, A', c', w', hrun, ⟨h3, x0, e0, e1, e2, e3, hjl, x2, x3, rfl⟩, ⟨o5, m5, A5, la5, ca5, K5, lk5, ck5, q0, q1, q2, q3⟩, hrun2, hf, hc, ⟨?_⟩⟩
  have hkt : ks.take (i + 1) = ks.take i ++ [k] := by
    rw [List.take_succ_eq_append_getElem hil, (List.getElem?_eq_some_iff.1 hki).2]
  have hnum : kidsN (putsV (ks.take i) L) (ks.take i) ++ [(j : Int)] = kidsN (putsV (ks.take (i + 1)) L) (ks.take (i + 1)) := by
    rw [puts_snoc ks i k L hki, kidsN_at _ ks hki, hj]
    obtain ⟨r, hr⟩ := (put_one k (putsV (ks.take i) L)).pre
    rw [← hr, kidsN_pre (puts_has (ks.take i) L)]
    rfl
  rw [hnum, ← puts_snoc ks i k L hki, ← hkt] at hp9
  exact hp9
set_option maxRecDepth 100000 in
set_option maxHeartbeats 16000000 in
theorem put_step (o m : Int) (d : List Int) (ks : List Tm) (hk : ∀ k ∈ ks, PutsAt k) (hr : rightF (.mk o m d ks) 0 = true) : PutsAt (.mk o m d ks) := by
  intro S0 B0 base vb mb ob L v w hV00 hv hBM0 ht hbase hmb hroom
  have hV := hV00.bound
  obtain ⟨c0, c1, c2, c3, rfl, hc⟩ := hv
  have hc := TmC.bound _ _ _ _ _ hc
  obtain ⟨S, hSe⟩ : ∃ S, S = fun g => S0 g ∧ g < w.heap.size := ⟨_, rfl⟩
  obtain ⟨B, hBe⟩ : ∃ B, B = fun g => B0 g ∧ g < w.heap.size := ⟨_, rfl⟩
  rw [← hSe] at hV
  rw [← hBe] at hc
  have hSb : ∀ g, S g → g < w.heap.size := fun g hg => by rw [hSe] at hg; exact hg.2
  have hBb : ∀ g, B g → g < w.heap.size := fun g hg => by rw [hBe] at hg; exact hg.2
  have hBM : ∀ g, B g → ¬ Mut vb mb ob g := fun g hg => by rw [hBe] at hg; exact hBM0 g hg.1
  obtain ⟨oo, mm, A, la, ca, K, n, ck, rfl, rfl, rfl, rfl⟩ := hc.shape
  have hc0 := hc
  obtain ⟨hlen, hlc, hck9, _⟩ := kidv hc
  have hn4 := (alone_data (right_mk.1 hr).2.1).2
  rw [hlen] at hn4
  unfold TmC at hc
  obtain ⟨e0, ho, e1, hm, ⟨A', la', ca', e2, hA1, hA2, hA3, hA4⟩, _⟩ := hc
  cases e0; cases e1; cases e2
  have hdla : d.length = la := hA3.1
  have hsz : szT (.mk o m d ks) = szTs ks + 1 := szT_kids o m d ks
  obtain ⟨W0, hW0⟩ : ∃ x, (w.alloc (.cells #[.int .i64 o, .int .i64 m, .slice A la ca, .slice K n ck] 43)).alloc (.cells #[.int .i64 o, .int .i64 m, .slice none 0 0, .slice none 0 0] 43) = x := ⟨_, rfl⟩
  have hz0 : W0.heap.size = w.heap.size + 2 := by rw [← hW0]; simp
  have p0 : W0.heap[w.heap.size]? = some (.cells #[.int .i64 o, .int .i64 m, .slice A la ca, .slice K n ck] 43) := by rw [← hW0, heap_old_ _ _ (by simp)]; exact heap_new_ _ _
  have p1 : W0.heap[w.heap.size + 1]? = some (.cells #[.int .i64 o, .int .i64 m, .slice none 0 0, .slice none 0 0] 43) := by
    rw [← hW0]
    have := heap_new_ (w.alloc (.cells #[.int .i64 o, .int .i64 m, .slice A la ca, .slice K n ck] 43)) (.cells #[.int .i64 o, .int .i64 m, .slice none 0 0, .slice none 0 0] 43)
    rwa [show (w.alloc (.cells #[.int .i64 o, .int .i64 m, .slice A la ca, .slice K n ck] 43)).heap.size = w.heap.size + 1 by simp] at this
  have hb0 : Below w.heap.size w W0 := by rw [← hW0]; exact (below_new _ _).alloc (by simp) _
  have f3 : W0.cell? ⟨w.heap.size, 3, none⟩ = some (.slice K n ck) := (Lib.cell_of_heap p0 _).trans rfl
  have hpr0 : PR w S vb mb ob o m (.cells #[.int .i64 o, .int .i64 m, .slice A la ca, .slice K n ck] 43) L ks 0 ob none 0 (.slice none 0 0) W0 := by
    refine ⟨hSb, ?_, .inl rfl, Off.of_below hb0, p0, p1, ⟨[], World.ownsRow_nil _ _ _ _, rfl⟩, World.ownsRow_nil _ _ _ _, fun g hg => by cases hg⟩
    rw [List.take_zero, putsV_nil]
    exact (hV.below hb0).mono fun g hg => show Room w S none (.slice none 0 0) g from ⟨.inl hg, (fun e => by cases e), (fun e => by cases e)⟩
  have HPR := Lib.hid hpr0
  have HW0 := Lib.hid hW0
  have HKID := Lib.hid hc0
  have HIH := Lib.hid hk
  have HLEN := Lib.hid (And.intro hlen (And.intro hdla (And.intro hsz hroom)))
  have HSS := Lib.hid (And.intro hSe hBe)
  have HT := Lib.hid (And.intro ht (And.intro hbase hmb))
  have HBM := Lib.hid (And.intro hBM hBb)
  have HR := Lib.hid hr
  have HV := Lib.hid hV
  clear hpr0 hc0 hk hlen hdla hsz hroom hSe hBe ht hbase hmb hBM hBb hr hV hb0 p0 p1 hz0 hSb hBM0 hV00 f3 hW0
  go_enter Tryz.func46, Tryz.ntmps46
  go_wp2_with fail
  rw [HW0.out]
  go_loopg [6, 21] (n + 1) (fun gk s6 s21 wx => ∃ (i : Nat) (A6 : Option Addr) (c6 : Nat) (obx : Option Nat) (Ax : Option Addr) (cx : Nat), s6 = .slice A6 i c6 ∧ s21 = .int .i64 i ∧ i ≤ n ∧ n - i < gk ∧ Hid (PR w S vb mb ob o m (.cells #[.int .i64 o, .int .i64 m, .slice A la ca, .slice K n ck] 43) L ks i obx Ax cx (.slice A6 i c6) wx))
  case atStart => exact ⟨0, none, 0, ob, none, 0, rfl, rfl, by omega, by omega, HPR⟩
  case round =>
    obtain ⟨i, A6, c6, obx, Ax, cx, rfl, rfl, hi, hgk, HI⟩ := hrel
    by_cases hlt : i < n
    · have hltz : (i : Int) < (n : Int) := by omega
      obtain ⟨gk', rfl⟩ : ∃ g', gk = g' + 1 := ⟨gk - 1, by omega⟩
      have HN12 := Lib.hid (And.intro (show i + 1 ≤ n from hlt) (show n - (i + 1) < gk' by omega))
      have hst : Stays B w wr := HI.out.pi.off.stays fun g _ hg => HBM.out.1 g hg
      obtain ⟨_, _, _, hkk⟩ := kidv (TmC.stays hst _ _ _ _ _ HKID.out)
      obtain ⟨k, g, off, d0, d1, d2, d3, hki, rfl, e0, e1, e2, e3, hd⟩ := hkk i hlt
      obtain ⟨to, tm, tA, tla, tca, tK, tlk, tck, q0, q1, q2, q3⟩ := hd.shape
      subst q0 q1 q2 q3
      obtain ⟨wn, hwn⟩ : ∃ x, wr.alloc (.cells #[.int .i64 to, .int .i64 tm, .slice tA tla tca, .slice tK tlk tck] 43) = x := ⟨_, rfl⟩
      have hnew : Below wr.heap.size wr wn := by rw [← hwn]; exact below_new _ _
      have hpi := HI.out.pi.below hnew
      have hmem : k ∈ ks := List.mem_of_getElem? hki
      have hil := (List.getElem?_eq_some_iff.1 hki).1
      have hsum : (putsV (ks.take i) L).length + szT k ≤ 4096 := by
        have h1 := (puts_ones (ks.take i) L).len
        have h2 : szTs (ks.take i) + szT k ≤ szTs ks := by
          have e : ks = ks.take i ++ k :: ks.drop (i + 1) := by
            conv => lhs; rw [← List.take_append_drop i ks, List.drop_eq_getElem_cons hil, (List.getElem?_eq_some_iff.1 hki).2]
          conv => rhs; rw [e]
          rw [szTs_app, szTs_two]
          omega
        have h3 := HLEN.out.2.2
        omega
      have C1 := HIH.out k hmem (Room w S Ax (.slice A6 i c6)) B base vb mb obx (putsV (ks.take i) L) (.agg #[.int .i64 to, .int .i64 tm, .slice tA tla tca, .slice tK tlk tck]) wn hpi.vlt ⟨_, _, _, _, rfl, TmC.below hnew _ _ _ _ _ hd⟩
        (fun b hb hm => HBM.out.1 b hb (hpi.old (HBM.out.2 b hb) hm)) (hpi.off.tab HT.out.2.2 HT.out.2.1 HT.out.1) (Nat.le_trans HT.out.2.1 hpi.off.size)
        (fun b hb => by
          rcases Nat.lt_or_ge b w.heap.size with h | h
          · exact HT.out.2.2 b (hpi.old h hb)
          · exact Nat.le_trans HT.out.2.1 h) hsum
      have hn10 : ks.length ≤ 10000 := by rw [HLEN.out.1]; omega
      have hstep := fun (w5 : World) (j : Nat) (ob5 : Option Nat) hj hV5 hob5 hoff5 => HI.out.step (wn := wn) (w5 := w5) (j := j) (ob5 := ob5) hn10 hnew hki hj hV5 hob5 hoff5
      have HC1 := Lib.hid C1
      have HS := Lib.hid hstep
      clear C1 hstep hpi hst hkk hd hki hmem hil hsum hn10 hnew hgk
      obtain ⟨g9, hg9⟩ : ∃ x, x = (0 : Nat) := ⟨_, rfl⟩
      clear hg9 g9
      have HWN := Lib.hid hwn
      clear hwn
      go_wp2_with (first | (at_builtin; refine wpl_append rfl (.tmp 28) (.tmp 30) 23 rfl _ _ _ rfl rfl hrun ?_) | (go_at_call 46; rw [HWN.out]; refine HC1.out.mono ?_; rintro e w5 ⟨j, ob5, rfl, hj, hV5, hob5, hoff5⟩; obtain ⟨hj4, v7, w6, A9, c9, l9, g9, y0, y1, y2, y3, A', c', w', hrun, ⟨x0, x1, x2, x3, x4, x5, hjl, hl9, hc9, rfl⟩, ⟨o5, m5, A5, la5, ca5, K5, lk5, ck5, rfl, rfl, rfl, rfl⟩, hrun2, hf, hc, hpr⟩ := HS.out w5 j ob5 hj hV5 hob5 hoff5; obtain ⟨⟨A7, c7, rfl⟩, _⟩ := hpr.slice (by rw [HLEN.out.1]; exact HN12.out.1); have HPR2 := Lib.hid hpr; clear hpr hj hV5 hob5 hoff5))
      obtain ⟨vo, hvo⟩ := hc
      have x6 : (w6.alloc (.cells #[.int .i64 o5, .int .i64 m5, .slice A5 la5 ca5, .slice K5 lk5 ck5] 43)).cell? ⟨w.heap.size + 1, 3, none⟩ = some (.slice Ax i cx) := ((below_new w6 _).cell (p := ⟨w.heap.size + 1, 3, none⟩) (block_lt_of_cell x0)).trans x0
      have hjlz : (j : Int) < (l9 : Int) := by omega
      clear HC1 HS HWN hrun e0 e1 e2 e3
      go_region_law (first | (refine step_run rfl (.tmp 33) (.tmp 41) 22 rfl _ _ _ (by simp [Act.eval]) (by simp [Act.eval]) hrun2 ?_))
      all_goals
        clear x0 x1 x2 x3 x4 x5 x6 hrun2 hf hvo
        go_wp2
        go_roundg gk'
        case measure => omega
        case rel => exact ⟨i + 1, A7, c7, ob5, A', c', rfl, by go_num, HN12.out.1, HN12.out.2, HPR2⟩
    · have hltz : ¬ (i : Int) < (n : Int) := by omega
      obtain rfl : i = n := by omega
      have hI := HI.out.pi
      have htk : ks.take i = ks := List.take_of_length_le (by rw [HLEN.out.1]; exact Nat.le_refl _)
      rw [htk] at hI
      have hst : Stays B w wr := hI.off.stays fun g _ hg => HBM.out.1 g hg
      have hcw := TmC.stays hst _ _ _ _ _ HKID.out
      unfold TmC at hcw
      obtain ⟨_, _, _, _, ⟨A', la', ca', e2, hA1, hA2, hA3, _⟩, _⟩ := hcw
      cases e2
      obtain ⟨b0, b1, b2, b3⟩ : wr.cell? ⟨w.heap.size, 0, none⟩ = some (.int .i64 o) ∧ wr.cell? ⟨w.heap.size, 1, none⟩ = some (.int .i64 m) ∧ wr.cell? ⟨w.heap.size, 2, none⟩ = some (.slice A la ca) ∧ wr.cell? ⟨w.heap.size, 3, none⟩ = some (.slice K i ck) := ⟨(Lib.cell_of_heap hI.box _).trans rfl, (Lib.cell_of_heap hI.box _).trans rfl, (Lib.cell_of_heap hI.box _).trans rfl, (Lib.cell_of_heap hI.box _).trans rfl⟩
      have hLl := hI.vlt.len
      have hkf : Fit8 (kidsN (putsV ks L) ks) := kidsN_fit (by omega)
      have hnums := hI.nums
      rw [kidsN_len, HLEN.out.1] at hnums
      obtain ⟨_, _, e6, hl6, hm6, _⟩ := own_shape hnums
      cases e6
      have hins := Ins.own hnums hkf
      have ht : txc.Tab wr.heap.size wr := (hI.off.tab HT.out.2.2 HT.out.2.1 HT.out.1).mono (Nat.le_trans HT.out.2.1 hI.off.size)
      have hW := written_any o m ho hm A la ca d (.slice K i ck) A6 i c6 (kidsN (putsV ks L) ks) wr hA3 hA1 hA2 hins hl6 hm6 (by omega) (by have := HLEN.out.2.1; have := (alone_data (right_mk.1 HR.out).2.1).1; omega) ht ⟨K, i, ck, rfl⟩
      have hkin := puts_has ks L
      have hfit : FitT (.mk o m d ks) := hA3.2.1
      have hkl : (keyT (putsV ks L) (.mk o m d ks)).length ≤ 1000000 := by
        have h1 := keyF_len (o := o) (m := m) (ks := kidsN (putsV ks L) ks) (d := d) ho hm hkf
        rw [kidsN_len, HLEN.out.1] at h1
        have h2 := (alone_data (right_mk.1 HR.out).2.1).1
        show (keyF o m (kidsN (putsV ks L) ks) d).length ≤ 1000000
        omega
      have hlook := fun (w1 : World) (hb : Below wr.heap.size wr w1) => (hI.below hb).vlt.look (t := .mk o m d ks) hkin hfit hkl
      have hcells := fun (w1 : World) (hb : Below wr.heap.size wr w1) => (hI.below hb).vlt.at
      have hbox1 := fun (w1 : World) (hb : Below wr.heap.size wr w1) => (Lib.cell_of_heap (hI.below hb).box 2).trans (show _ = some (Value.slice A la ca) from rfl)
      have hkey : keyF o m (kidsN (putsV ks L) ks) d = keyT (putsV ks L) (.mk o m d ks) := rfl
      rw [hkey] at hW
      have hcl := HV.out.closed
      have HW := Lib.hid hW
      have HLK := Lib.hid hlook
      have HCL := Lib.hid hcells
      have HB1 := Lib.hid hbox1
      have HPI := Lib.hid hI
      have HSS2 : Hid (∀ g, S g ∨ w.heap.size ≤ g → S0 g ∨ w.heap.size ≤ g) := Lib.hid fun g hg => hg.imp (fun e => by rw [HSS.out.1] at e; exact e.1) id
      cases hfk : findV (.mk o m d ks) (putsV ks L) with
      | some j =>
        have hmem := List.mem_of_getElem? (findV_some hfk).1
        have hput := put_old hcl hmem
        have HE := Lib.hid (And.intro hfk hput)
        have HLK2 : Hid (∀ w1, Below wr.heap.size wr w1 → (Instr.lookup 75 (.map (some mb)) (.string (strOfNums (keyT (putsV ks L) (.mk o m d ks)))) true).run Tryz.prog w1 = .ok (.tuple #[.int .i64 (j : Nat), .bool true]) w1) := Lib.hid fun w1 hb => by rw [HLK.out w1 hb, hfk]; rfl
        clear hI hst hA1 hA2 hA3 hLl hkf hnums hins ht hW hkin hfit hkl hlook hcells hbox1 hkey hcl hfk hmem hput HI hgk hl6 hm6 htk
        go_wp2_with (go_at_call 66; refine HW.out.mono ?_; rintro e w1 ⟨rfl, hb1⟩; have hlook := HLK2.out w1 hb1; obtain ⟨A9, c9, y0, y1, _⟩ := HCL.out w1 hb1; have HP1 := Lib.hid (HPI.out.below hb1))
        clear hlook y0 y1 b0 b1 b2 b3 hb1
        go_wp2
        go_ret
        refine ⟨j, obx, rfl, by rw [HE.out.2]; exact HE.out.1, ?_, HP1.out.hob, HP1.out.off⟩
        rw [HE.out.2]
        exact HP1.out.vlt.mono fun g hg => HSS2.out g (hg.1.imp id fun e => by omega)
      | none =>
        have hnot := findV_none.1 hfk
        have hput := put_fresh hnot
        have hlast := find_last hnot
        have hmn := map_nil mb
        have hl1 : (putsV ks L).length + 1 ≤ 4096 := by
          have h1 := (puts_ones ks L).len
          have h2 := HLEN.out.2.2
          omega
        have HE := Lib.hid (And.intro hlast (And.intro hput hl1))
        have HLK2 : Hid (∀ w1, Below wr.heap.size wr w1 → (Instr.lookup 75 (.map (some mb)) (.string (strOfNums (keyT (putsV ks L) (.mk o m d ks)))) true).run Tryz.prog w1 = .ok (.tuple #[.int .i64 0, .bool false]) w1) := Lib.hid fun w1 hb => by rw [HLK.out w1 hb, hfk]; rfl
        have hlst := fun (w1 : World) (hb1 : Below wr.heap.size wr w1) (w2 : World) (hb2 : Below w1.heap.size w1 w2) (A2 : Option Addr) (c2 : Nat) (hd : Bys w2 A2 la d) (hlc : la ≤ c2) (hcm : c2 ≤ maxLen) (hfar : ∀ g off sp, A2 = some ⟨g, off, sp⟩ → w1.heap.size ≤ g) => (hI.below hb1).last hb2 hd hlc hcm hfar hnot hkin HR.out ho hm hl1 hkl
        have hcopy := fun (w1 : World) (hb1 : Below wr.heap.size wr w1) => bclone_any A la ca d w1 (hA3.below hb1) hA1 hA2 (by have := HLEN.out.2.1; have := (alone_data (right_mk.1 HR.out).2.1).1; omega)
        have HLS := Lib.hid hlst
        have HCP := Lib.hid hcopy
        clear hI hst hA1 hA2 hA3 hLl hkf hnums hins ht hW hkin hfit hkl hlook hcells hbox1 hkey hcl hfk hnot hlast hput hl1 hlst hcopy HI hgk hl6 hm6 htk
        go_wp2_with (first | (go_at_call 66; refine HW.out.mono ?_; rintro e w1 ⟨rfl, hb1⟩; have hlook := HLK2.out w1 hb1; obtain ⟨A9, c9, y0, y1, _⟩ := HCL.out w1 hb1; have y2 := HB1.out w1 hb1) | (go_at_call 67; refine (HCP.out w1 hb1).mono ?_; rintro e w2 ⟨A2, c2, rfl, hd2, ⟨hlc2, hcm2⟩, hb2, hfar2⟩; have y9 : (w2.setCell ⟨w.heap.size + 1, 2, none⟩ (.slice A2 la c2)).cell? ⟨vb, 1, none⟩ = some (.map (some mb)) := (World.cell?_setCell_other _ _ _ _ (by have hm := (HPI.out.mut (.inl rfl)).2.1; intro e; simp only [Addr.mk.injEq] at e; omega)).trans ((hb2.cell (p := ⟨vb, 1, none⟩) (block_lt_of_cell y1)).trans y1); have hls := HLS.out w1 hb1 w2 hb2 A2 c2 hd2 hlc2 hcm2 hfar2; clear hd2 hlc2 hcm2 hfar2 hb2; obtain ⟨A8, c8, g10, c10, w5, w8, ⟨s0, s1, s2⟩, s3, ⟨s4, s5, s6⟩, ⟨hrun, s7, s8⟩, ⟨s9, u0, u1, u2, u3⟩, ⟨u4, u5, u6⟩, ⟨u7, u8⟩, hup, hV8, hob8, hoff8⟩ := hls; have HEND := Lib.hid (And.intro hV8 (And.intro hob8 hoff8)); clear hV8 hob8 hoff8) | (go_at_call 16; refine (len_cell vb _ _ _ _ s4).mono ?_; rintro e w3 ⟨rfl, rfl⟩))
        clear y9
        obtain ⟨w3, hw3⟩ : ∃ x, w2.setCell ⟨w.heap.size + 1, 2, none⟩ (.slice A2 la c2) = x := ⟨_, rfl⟩
        rw [hw3] at s3 s4 hrun ⊢
        obtain ⟨p0, p1, p2, p3⟩ := s3 w3 (.inl rfl)
        obtain ⟨q0, q1, q2, q3⟩ := s3 _ (.inr (.inl rfl))
        obtain ⟨r0, r1, r2, r3⟩ := s3 w5 (.inr (.inr rfl))
        have v0 := s9 ((putsV ks L).length * 4)
        have v1 := s9 ((putsV ks L).length * 4 + 1)
        have v2 := s9 ((putsV ks L).length * 4 + 2)
        have v3 := s9 ((putsV ks L).length * 4 + 3)
        obtain ⟨l, hl⟩ : ∃ x, (putsV ks L).length = x := ⟨_, rfl⟩
        have HLX := Lib.hid hl
        have hlz : (l : Int) < ((l + 1 : Nat) : Int) := by omega
        have hlz2 : (l : Int) < (l : Int) + 1 := by omega
        have hlb : l < l + 1 := by omega
        rw [hl] at s4 s5 hrun s7 u0 u1 u2 u3 u6 u8 hup v0 v1 v2 v3 ⊢
        have s4' : (w3.alloc (.cells #[.int .i64 0, .int .i64 0, .slice none 0 0, .slice none 0 0] 43)).cell? ⟨vb, 0, none⟩ = some (.slice A8 l c8) := ((below_new w3 _).cell (p := ⟨vb, 0, none⟩) (block_lt_of_cell s4)).trans s4
        have hcomm := set4_comm w5 g10 vb (l * 4) 0 (.int .i64 o) (.int .i64 m) (.slice A2 la c2) (.slice Ax ks.length cx) (.slice (some ⟨g10, 0, none⟩) (l + 1) c10) u4
        unfold set4 at u8 hup hcomm
        have HCOMM := Lib.hid hcomm
        clear hcomm
        have h1 : (HE.out.2.2) = HE.out.2.2 := rfl
        clear h1 hw3 s3 s9 s1 s2 hl hlook y0 y1 y2 b0 b1 b2 b3 HLS HCP HLK2 HLK HCL HB1 HW HPI s0
        go_region_law (first | (refine step_run rfl (.tmp 77) (.tmp 80) 22 rfl _ _ _ rfl rfl hrun ?_))
        all_goals
          clear p0 p1 p2 p3 q0 q1 q2 q3 r0 r1 r2 r3 v0 v1 v2 v3 u0 u1 u2 u3 s4 s4' s5 s6 hrun s7 s8 u5 u6
          try rw [HCOMM.out]
          go_wp2_with (at_mapUpdate; refine wpl_update rfl (.tmp 88) (.tmp 89) (.tmp 90) 75 rfl _ _ _ rfl rfl rfl hup ?_)
          clear hup u7 u8 HCOMM
          go_wp2
          go_ret
          refine ⟨l, some g10, rfl, ?_, ?_, HEND.out.2.1, HEND.out.2.2⟩
          · rw [HE.out.2.1, HE.out.1, HLX.out]
          · rw [HE.out.2.1]
            exact HEND.out.1.mono HSS2.out
theorem puts_all : ∀ (N : Nat) (t : Tm), szT t ≤ N → rightF t 0 = true → PutsAt t
  | 0, .mk _ _ _ ks, h, _ => by unfold szT at h; omega
  | N + 1, .mk o m d ks, h, hr => by
    unfold szT at h
    exact put_step o m d ks (fun k hk => puts_all N k (by have := szTs_mem hk; omega) (right_kids hr hk)) hr
theorem put_any (t : Tm) (hr : rightF t 0 = true) : PutsAt t := puts_all _ t (Nat.le_refl _) hr
end Go.Proofs.YtlhogjigdmpokaaGreatDoor.vtc
