/- The law ExtsTurned of warderlaw10 answers true for any extensions and every byte, and leaves its arguments as they were; no condition but that the library's two tables are as its text lays them. -/
import Derived.Test.YtdcpggodlggjjaaGreatDoorAt
import Derived.Test.YtdcpggodlggjjaaGreatDoorCards
import Derived.Test.YtdcpggodlggjjaaGreatDoorTie
import Derived.WalkKit
import Derived.ProofKit
import Derived.OpenShut
import Derived.ChangeOld
import Derived.Below
import Derived.SizedLaws
import Derived.Test.YtdcpggodlggjjaaGreatDoorKb
import Derived.Test.YtdcpggodlggjjaaGreatDoorXc
import Derived.Laws.EntriesVeiled
namespace Go.Proofs.YtdcpggodlggjjaaGreatDoor.nmc
open Go.RowKit Go.Proofs.YtdcpggodlggjjaaGreatDoor.tlvc Go.Proofs.YtdcpggodlggjjaaGreatDoor.tlvd Go.Proofs.YtdcpggodlggjjaaGreatDoor.ndc Go.Proofs.YtdcpggodlggjjaaGreatDoor.txc Go.Proofs.YtdcpggodlggjjaaGreatDoor.txm Go.Proofs.YtdcpggodlggjjaaGreatDoor.intc Go.Proofs.YtdcpggodlggjjaaGreatDoor.intm
set_option linter.unusedVariables false
set_option linter.unusedSimpArgs false
def exZ (h c : Bool) (p u : Int) : Ex := ⟨h, c, p, u, [], [], [], [], []⟩
theorem exZ_cells (S : Nat → Prop) (w : World) (h c : Bool) (p u : Int) (hp : -9223372036854775808 ≤ p ∧ p ≤ 9223372036854775807) (hu : 0 ≤ u ∧ u ≤ 65535) : ExC S w (exZ h c p u) (.bool h) (.bool c) (.int .i64 p) (.int .u16 u) (.slice none 0 0) (.slice none 0 0) (.slice none 0 0) (.slice none 0 0) (.slice none 0 0) :=
 ⟨rfl, rfl, rfl, hp, rfl, hu, LsC.nil, LsC.nil, LsC.nil, LsC.nil, LsC.nil⟩
theorem exZ_right (h c : Bool) (p u : Int) : rightX (exZ h c p u) = (if c = true then h && decide (-1 ≤ p) && decide (p ≤ 100) else decide (p = 0)) := by
 unfold rightX boundedX exZ
 simp [partX, oddsX]
theorem exZ_put (h c : Bool) (p u : Int) (hu : 0 ≤ u ∧ u ≤ 65535) : putX (exZ h c p u) = if (if c = true then h && decide (-1 ≤ p) && decide (p ≤ 100) else decide (p = 0)) = true then some (nodeX (exZ h c p u)) else none := by
 rw [putX_right hu, exZ_right]
theorem exZ_kids (h c : Bool) (p u : Int) : (nodeX (exZ h c p u)).kids.length = (if h = true then 1 else 0) + (if u = 0 then 0 else 1) := by
 have e1 : decide (u ≠ 0) = !decide (u = 0) := by simp
 unfold nodeX exZ knownN ks5
 cases h <;> by_cases hu : u = 0 <;> simp [kthere, hu, Nd.kids, List.filter]
theorem nd_len {S : Nat → Prop} {w : World} {n : Nd} {c0 c1 : Value} {K : Option Addr} {lk ck : Nat} (h : NdC S w n c0 c1 (.slice K lk ck)) : lk = n.kids.length := by
 obtain ⟨t, b, ks⟩ := n
 obtain ⟨_, _, _, K', ck', e, _⟩ := NdC.kidsL h
 simp only [Value.slice.injEq] at e
 exact e.2.1
set_option maxRecDepth 100000 in
set_option maxHeartbeats 8000000 in
theorem head10_any (w : World) (hT : Tabs w) : Calls Tryz.prog 8 #[] w fun e w' => e = .returned (.bool true) ∧ Below w.heap.size w w' := by
 have hmf : ∀ (fn : Fn) (first cap : Array Value) (w : World), (Instr.makeFunc fn first cap).run Tryz.prog w = .ok (.func fn first cap) w := fun _ _ _ _ => rfl
 have hp1 := putE_any (fun _ => True) (exZ true true 2 0) _ _ _ _ _ _ _ _ _ w (exZ_cells _ _ _ _ _ _ (by decide) (by decide)) hT
 rw [exZ_put _ _ _ _ (by decide), if_pos (by decide)] at hp1
 have HP1 := Lib.hid hp1
 have HT := Lib.hid hT
 clear hp1 hT
 go_enter Tryz.func8, Tryz.ntmps8
 go_wp2_with fail
 refine HP1.out.mono ?_
 rintro e w1 ⟨hb1, t1, A1, l1, i1, K1, m1, n1, rfl, hn1⟩
 have hm1 : m1 = 1 := by rw [nd_len hn1, exZ_kids]; rfl
 subst hm1
 have hnb := below_new w1 (.cells #[.int .u8 t1, .slice A1 l1 i1, .slice K1 1 n1] 33)
 have hqn := heap_new_ w1 (.cells #[.int .u8 t1, .slice A1 l1 i1, .slice K1 1 n1] 33)
 have hbw := below_then hb1 hnb (Nat.le_refl _)
 have hg := getE_any _ _ _ _ _ _ (NdC.below hnb _ _ _ _ hn1) (HT.out.below hbw)
 rw [getX_node (by decide) (by rw [exZ_right]; decide)] at hg
 have HG := Lib.hid hg
 have HB1 := Lib.hid (And.intro hbw hqn)
 clear hnb hqn hbw hg hn1 hb1 HP1
 go_wp2_with fail
 refine HG.out.mono ?_
 rintro e w2 ⟨hb2, c0, c1, c2, c3, c4, c5, c6, c7, c8, rfl, hx2⟩
 obtain ⟨q0, q1, q2, q3, B4, q4, j4, B5, q5, j5, B6, q6, j6, B7, q7, j7, B8, q8, j8, rfl, rfl, rfl, rfl, rfl, rfl, rfl, rfl, rfl⟩ := exC_shape hx2
 obtain rfl : q0 = true := by have := hx2.has; simpa [exZ] using this
 obtain rfl : q1 = true := by have := hx2.ca; simpa [exZ] using this
 obtain rfl : q2 = 2 := by have := hx2.path; simpa [exZ] using this
 have hnb := below_new w2 (.cells #[.bool true, .bool true, .int .i64 2, .int .u16 q3, .slice B4 q4 j4, .slice B5 q5 j5, .slice B6 q6 j6, .slice B7 q7 j7, .slice B8 q8 j8] 28)
 have hqn := heap_new_ w2 (.cells #[.bool true, .bool true, .int .i64 2, .int .u16 q3, .slice B4 q4 j4, .slice B5 q5 j5, .slice B6 q6 j6, .slice B7 q7 j7, .slice B8 q8 j8] 28)
 have hb22 := below_then hb2 hnb (Nat.le_refl _)
 have hbw := below_then HB1.out.1 hb22 (Nat.le_refl _)
 have hp3 := putE_any (fun _ => True) (exZ false true 0 0) _ _ _ _ _ _ _ _ _ (w2.alloc (.cells #[.bool true, .bool true, .int .i64 2, .int .u16 q3, .slice B4 q4 j4, .slice B5 q5 j5, .slice B6 q6 j6, .slice B7 q7 j7, .slice B8 q8 j8] 28)) (exZ_cells _ _ _ _ _ _ (by decide) (by decide)) (HT.out.below hbw)
 rw [exZ_put _ _ _ _ (by decide), if_neg (by decide)] at hp3
 have HP3 := Lib.hid hp3
 have HB2 := Lib.hid (And.intro hbw (And.intro hqn (And.intro hb22 hnb)))
 clear hnb hqn hbw hp3 hb22 hb2 hx2 HG
 go_wp2_with fail
 refine HP3.out.mono ?_
 rintro e w3 ⟨hb3, rfl⟩
 have hnb := below_new w3 (.cells #[.int .u8 0, .slice none 0 0, .slice none 0 0] 33)
 have hb33 := below_then hb3 hnb (Nat.le_refl _)
 obtain ⟨y0, y1, y2, y3, y4, y5, y6, y7, y8⟩ := box9 hb33 HB2.out.2.1
 obtain ⟨x0, x1, x2⟩ := box_nd (below_then HB2.out.2.2.1 hb33 (Nat.le_refl _)) HB1.out.2
 have HE := Lib.hid (below_then HB2.out.1 hb33 (Nat.le_refl _))
 clear hnb hb33 hb3 HB1 HB2 HP3
 go_wp2
 go_ret
 exact ⟨rfl, HE.out⟩
end Go.Proofs.YtdcpggodlggjjaaGreatDoor.nmc
namespace Go.Proofs.YtdcpggodlggjjaaGreatDoor.nmc
open Go.RowKit Go.Proofs.YtdcpggodlggjjaaGreatDoor.tlvc Go.Proofs.YtdcpggodlggjjaaGreatDoor.tlvd Go.Proofs.YtdcpggodlggjjaaGreatDoor.ndc Go.Proofs.YtdcpggodlggjjaaGreatDoor.txc Go.Proofs.YtdcpggodlggjjaaGreatDoor.txm Go.Proofs.YtdcpggodlggjjaaGreatDoor.intc Go.Proofs.YtdcpggodlggjjaaGreatDoor.intm
set_option linter.unusedVariables false
set_option linter.unusedSimpArgs false
def wF (k : Nd) : Int := whichF (oddOfF k).oid
theorem wF_ext {o : Od} (h : objB o.oid = true) : wF (extF o) = whichF o.oid := by unfold wF; rw [oddOf_ext h]
theorem odds_free : ∀ {xs : List Od} {taken : List (List Int)}, oddsX taken xs = true → ∀ o ∈ xs, objB o.oid = true ∧ o.oid ∉ taken
 | [], _, _, o, ho => by simp at ho
 | y :: ys, taken, h, o, ho => by
  unfold oddsX at h
  simp only [Bool.and_eq_true, decide_eq_true_eq, Bool.not_eq_true', decide_eq_false_iff_not] at h
  rcases List.mem_cons.1 ho with rfl | ho
  ·exact ⟨h.1.1.1, h.1.2⟩
  ·obtain ⟨h1, h2⟩ := odds_free h.2 o ho
   exact ⟨h1, fun hm => h2 (List.mem_append.2 (.inl hm))⟩
theorem known_w (x : Ex) : ∀ (is : List Nat), (∀ i ∈ is, i < 5) → (knownN x is).map wF = (is.filter (kthere x)).map (fun (i : Nat) => (i : Int)) := fun is h => by
 unfold knownN
 rw [List.map_map]
 refine List.map_congr_left fun i hi => ?_
 have hi5 := h i (List.mem_filter.1 hi).1
 show wF (extF ⟨koid i, kcrit i, bytesN (saysF x i)⟩) = _
 rw [wF_ext (koid_obj hi5)]
 exact which_koid hi5
theorem ks5_lt : ∀ i ∈ ks5, i < 5 := fun i hi => by unfold ks5 at hi; simp at hi; omega
theorem kids_w {x : Ex} (hr : rightX x = true) : (nodeX x).kids.map wF = (ks5.filter (kthere x)).map (fun (i : Nat) => (i : Int)) ++ x.odd.map (fun _ => -1) := by
 unfold rightX at hr
 simp only [Bool.and_eq_true] at hr
 have hf := odds_free hr.1.2
 show (knownN x ks5 ++ x.odd.map extF).map wF = _
 rw [List.map_append, known_w x ks5 ks5_lt, List.map_map]
 congr 1
 refine List.map_congr_left fun o ho => ?_
 obtain ⟨h1, h2⟩ := hf o ho
 show wF (extF o) = -1
 rw [wF_ext h1, which_no h2]
theorem order_w {x : Ex} (hr : rightX x = true) : ((nodeX x).kids.map wF).Pairwise (fun u v => u < v ∨ v = -1) := by
 rw [kids_w hr, List.pairwise_append]
 refine ⟨?_, ?_, ?_⟩
 ·rw [List.pairwise_map]
  have h : ks5.Pairwise (· < ·) := by decide
  exact (h.filter _).imp (fun h => Or.inl (Int.ofNat_lt.2 h))
 ·rw [List.pairwise_map]
  exact List.pairwise_of_forall (fun _ _ => .inr rfl)
 ·intro u _ v hv
  obtain ⟨_, _, rfl⟩ := List.mem_map.1 hv
  exact .inr rfl
theorem known_ne {x : Ex} (hr : rightX x = true) (ho : x.odd = []) : ∀ k ∈ (nodeX x).kids, wF k ≠ -1 := fun k hk => by
 have h := List.mem_map_of_mem (f := wF) hk
 rw [kids_w hr, ho, List.map_nil, List.append_nil] at h
 obtain ⟨j, _, e⟩ := List.mem_map.1 h
 have e : ((j : Nat) : Int) = wF k := e
 omega
theorem order_at {x : Ex} (hr : rightX x = true) {ks : List Nd} (hk : (nodeX x).kids = ks) {i j : Nat} (hj : j < ks.length) (hij : i < j) : wF (ks[i]'(by omega)) < wF ks[j] ∨ wF ks[j] = -1 := by
 have h := order_w hr
 rw [hk, List.pairwise_map] at h
 exact List.pairwise_iff_getElem.1 h i j (by omega) hj hij
theorem turned_no {x : Ex} (hr : rightX x = true) (ho : x.odd = []) {ks : List Nd} (hk : (nodeX x).kids = ks) {i : Nat} (hi : i + 1 < ks.length) : getX (.mk 48 [] ((ks.set i ks[i + 1]).set (i + 1) (ks[i]'(by omega)))) = none := by
 cases h : getX (.mk 48 [] ((ks.set i ks[i + 1]).set (i + 1) (ks[i]'(by omega)))) with
 | none => rfl
 | some y =>
  obtain ⟨hy, hn⟩ := getX_some h
  have hl : (nodeX y).kids = (ks.set i ks[i + 1]).set (i + 1) (ks[i]'(by omega)) := by rw [hn]; rfl
  have h1 := order_at hy hl (i := i) (j := i + 1) (by simpa using hi) (by omega)
  have h2 := order_at hr hk hi (Nat.lt_succ_self i)
  have h3 := known_ne hr ho ks[i + 1] (by rw [hk]; exact List.getElem_mem _)
  have h4 := known_ne hr ho (ks[i]'(by omega)) (by rw [hk]; exact List.getElem_mem _)
  rw [List.getElem_set_self, List.getElem_set_ne (by omega), List.getElem_set_self] at h1
  omega
theorem twice_no {x : Ex} (hr : rightX x = true) (ho : x.odd = []) {ks : List Nd} (hk : (nodeX x).kids = ks) {i : Nat} (hi : i < ks.length) : getX (.mk 48 [] (ks ++ [ks[i]])) = none := by
 cases h : getX (.mk 48 [] (ks ++ [ks[i]])) with
 | none => rfl
 | some y =>
  obtain ⟨hy, hn⟩ := getX_some h
  have hl : (nodeX y).kids = ks ++ [ks[i]] := by rw [hn]; rfl
  have h1 := order_at hy hl (i := i) (j := ks.length) (by simp) hi
  have h4 := known_ne hr ho ks[i] (by rw [hk]; exact List.getElem_mem _)
  rw [List.getElem_append_left hi, List.getElem_append_right (Nat.le_refl _)] at h1
  simp at h1
  omega
theorem grow_empty {α : Type} {E : El α} {e : TypeId} {base : Nat} {Y : Nat → Prop} {w : World} {g : Nat} (hb : base ≤ g) (h : w.heap[g]? = some (.cells #[] e)) : GRow E e base Y w (.slice (some ⟨g, 0, none⟩) 0 0) ([] : List α) :=
 ⟨[], ⟨by simp, .inr ⟨g, 0, #[], rfl, hb, h, Nat.le_refl _, Nat.zero_le _, by simp, by simp⟩⟩, rfl⟩
/-- A list of nodes in a block of one's own; what they hold lies elsewhere. -/
structure Tu (w W : World) (g cap : Nat) (xs : List Nd) (T : TypeId) : Prop where
 bel : Below w.heap.size w W
 here : w.heap.size ≤ g
 caps : xs.length ≤ cap ∧ cap ≤ maxLen
 row : ∃ cur : Array Value, W.heap[g]? = some (.cells cur T (0, 0)) ∧ cur.size = cap * 3 ∧ ∀ (i : Nat) (hi : i < xs.length), ∃ t A l c K m n, cur[i * 3]? = some (.int .u8 t) ∧ cur[i * 3 + 1]? = some (.slice A l c) ∧ cur[i * 3 + 2]? = some (.slice K m n) ∧ NdC (fun h => h ≠ g) W xs[i] (.int .u8 t) (.slice A l c) (.slice K m n)
theorem Tu.of {w W : World} {Y : Nat → Prop} {g n cap : Nat} {xs : List Nd} {T : TypeId} (hb : Below w.heap.size w W) (h : GRow ndE T w.heap.size Y W (.slice (some ⟨g, 0, none⟩) n cap) xs) : Tu w W g cap xs T := by
 obtain ⟨cs, ho, ha⟩ := h
 rcases ho.2 with ⟨h0, _⟩ | ⟨g', cap', cur, e, hbg, hg, h1, h2, h3, h4⟩
 ·cases h0
 ·simp only [Value.slice.injEq, Option.some.injEq, Addr.mk.injEq] at e
  obtain ⟨⟨rfl, _⟩, rfl, rfl⟩ := e
  refine ⟨hb, hbg, ⟨h1, h2⟩, cur, hg, h3, fun i hi => ?_⟩
  obtain ⟨a, k1, k2⟩ := ha.at i hi
  obtain ⟨c0, c1, c2, rfl, hn⟩ := k1
  have kk := fun (j : Nat) (u : Value) (hu : [c0, c1, c2][j]? = some u) => k2 j u hu
  obtain ⟨t, A, l, c, K, m, nn, rfl, rfl, rfl⟩ := hn.shape
  have hcur : ∀ (o : Nat) (u : Value), cs[o]? = some u → cur[o]? = some u := fun o u hu => by
   rw [← h4, List.getElem?_take] at hu
   split at hu
   ·rwa [Array.getElem?_toList] at hu
   ·cases hu
  refine ⟨t, A, l, c, K, m, nn, hcur _ _ (kk 0 _ rfl), hcur _ _ (kk 1 _ rfl), hcur _ _ (kk 2 _ rfl), NdC.mono (fun h hh => ?_) _ _ _ _ hn⟩
  intro e
  subst e
  exact hh.2.2 rfl
theorem Tu.below {w W W' : World} {g cap : Nat} {xs : List Nd} {T : TypeId} (h : Tu w W g cap xs T) (hb : Below W.heap.size W W') : Tu w W' g cap xs T := by
 obtain ⟨cur, h1, h2, h3⟩ := h.row
 refine ⟨below_then h.bel hb (Nat.le_refl _), h.here, h.caps, cur, (hb.block _ (Array.getElem?_eq_some_iff.1 h1).1).trans h1, h2, fun i hi => ?_⟩
 obtain ⟨t, A, l, c, K, m, n, k1, k2, k3, k4⟩ := h3 i hi
 exact ⟨t, A, l, c, K, m, n, k1, k2, k3, NdC.below hb _ _ _ _ k4⟩
theorem Tu.lst {w W : World} {g cap : Nat} {xs : List Nd} {T : TypeId} (h : Tu w W g cap xs T) : Lst ndE (fun _ => True) W (some ⟨g, 0, none⟩) xs := fun _ => by
 obtain ⟨cur, h1, h2, h3⟩ := h.row
 refine ⟨g, 0, rfl, (Array.getElem?_eq_some_iff.1 h1).1, trivial, fun i hi => ?_⟩
 obtain ⟨t, A, l, c, K, m, n, k1, k2, k3, k4⟩ := h3 i hi
 refine ⟨[_, _, _], fun j u hu => ?_, ⟨_, _, _, rfl, NdC.mono (fun _ _ => trivial) _ _ _ _ k4⟩⟩
 rw [Lib.cell_of_heap h1, Nat.zero_add, show ndE.sz = 3 from rfl]
 match j, hu with
 | 0, hu => cases hu; exact k1
 | 1, hu => cases hu; exact k2
 | 2, hu => cases hu; exact k3
 | j + 3, hu => simp at hu
theorem Tu.old {w W : World} {g cap : Nat} {xs : List Nd} {T : TypeId} (h : Tu w W g cap xs T) {i : Nat} (hi : i < xs.length) : ∃ t A l c K m n, W.cell? ⟨g, i * 3, none⟩ = some (.int .u8 t) ∧ W.cell? ⟨g, i * 3 + 1, none⟩ = some (.slice A l c) ∧ W.cell? ⟨g, i * 3 + 2, none⟩ = some (.slice K m n) ∧ ∃ cur : Array Value, W.heap[g]? = some (.cells cur T (0, 0)) := by
 obtain ⟨cur, h1, h2, h3⟩ := h.row
 obtain ⟨t, A, l, c, K, m, n, k1, k2, k3, k4⟩ := h3 i hi
 exact ⟨t, A, l, c, K, m, n, (Lib.cell_of_heap h1 _).trans k1, (Lib.cell_of_heap h1 _).trans k2, (Lib.cell_of_heap h1 _).trans k3, cur, h1⟩
theorem Tu.put {w W : World} {g cap : Nat} {xs : List Nd} {T : TypeId} (h : Tu w W g cap xs T) {i : Nat} (hi : i < xs.length) {y : Nd} {t : Int} {A : Option Addr} {l c : Nat} {K : Option Addr} {m n : Nat} (hy : NdC (fun h => h ≠ g) W y (.int .u8 t) (.slice A l c) (.slice K m n)) :
 Tu w (((W.setCell ⟨g, i * 3, none⟩ (.int .u8 t)).setCell ⟨g, i * 3 + 1, none⟩ (.slice A l c)).setCell ⟨g, i * 3 + 2, none⟩ (.slice K m n)) g cap (xs.set i y) T := by
 obtain ⟨cur, h1, h2, h3⟩ := h.row
 have hset : ∀ {nn : Nd} {a b c' : Value}, NdC (fun h => h ≠ g) W nn a b c' → NdC (fun h => h ≠ g) (((W.setCell ⟨g, i * 3, none⟩ (.int .u8 t)).setCell ⟨g, i * 3 + 1, none⟩ (.slice A l c)).setCell ⟨g, i * 3 + 2, none⟩ (.slice K m n)) _ a b c' := fun hh =>
  NdC.stays ⟨by rw [set_size, set_size, set_size]; exact Nat.le_refl _, fun p hp _ => cell_same (by rw [set_heap_other _ _ _ _ _ hp, set_heap_other _ _ _ _ _ hp, set_heap_other _ _ _ _ _ hp])⟩ _ _ _ _ hh
 have hsz : (i * 3 + 2) < cur.size := by have := h.caps.1; omega
 refine ⟨((h.bel.setCell (p := ⟨g, i * 3, none⟩) h.here _).setCell (p := ⟨g, i * 3 + 1, none⟩) h.here _).setCell (p := ⟨g, i * 3 + 2, none⟩) h.here _, h.here, by rw [List.length_set]; exact h.caps, _, set_heap _ _ _ _ _ _ _ (set_heap _ _ _ _ _ _ _ (set_heap _ _ _ _ _ _ _ h1)), by simp [h2], fun j hj => ?_⟩
 rw [List.length_set] at hj
 by_cases hij : j = i
 ·subst hij
  refine ⟨t, A, l, c, K, m, n, ?_, ?_, ?_, ?_⟩
  ·rw [Array.getElem?_setIfInBounds_ne (by omega), Array.getElem?_setIfInBounds_ne (by omega), Array.getElem?_setIfInBounds_self_of_lt (by omega)]
  ·rw [Array.getElem?_setIfInBounds_ne (by omega), Array.getElem?_setIfInBounds_self_of_lt (by simp; omega)]
  ·rw [Array.getElem?_setIfInBounds_self_of_lt (by simp; omega)]
  ·rw [List.getElem_set_self]; exact hset hy
 ·obtain ⟨t', A', l', c', K', m', n', k1, k2, k3, k4⟩ := h3 j hj
  refine ⟨t', A', l', c', K', m', n', ?_, ?_, ?_, ?_⟩
  ·rw [Array.getElem?_setIfInBounds_ne (by omega), Array.getElem?_setIfInBounds_ne (by omega), Array.getElem?_setIfInBounds_ne (by omega)]; exact k1
  ·rw [Array.getElem?_setIfInBounds_ne (by omega), Array.getElem?_setIfInBounds_ne (by omega), Array.getElem?_setIfInBounds_ne (by omega)]; exact k2
  ·rw [Array.getElem?_setIfInBounds_ne (by omega), Array.getElem?_setIfInBounds_ne (by omega), Array.getElem?_setIfInBounds_ne (by omega)]; exact k3
  ·rw [List.getElem_set_ne (fun e => hij e.symm)]; exact hset k4
end Go.Proofs.YtdcpggodlggjjaaGreatDoor.nmc
namespace Go.Proofs.YtdcpggodlggjjaaGreatDoor.extsTurned
open Go.ChangeShapes Go.WideShapes Go.ChangeAt Go.RowKit
set_option linter.unusedVariables false
theorem own : ownKnob Tryz.prog.godebug = none := by kernel_rfl
theorem laidOut : laidOutB Tryz.prog = true := by kernel_rfl
open Go.Proofs.YtdcpggodlggjjaaGreatDoor.tlvc Go.Proofs.YtdcpggodlggjjaaGreatDoor.tlvd Go.Proofs.YtdcpggodlggjjaaGreatDoor.ndc Go.Proofs.YtdcpggodlggjjaaGreatDoor.txc Go.Proofs.YtdcpggodlggjjaaGreatDoor.nmc
theorem grow_some {α : Type} {E : El α} {e : TypeId} {base : Nat} {Y : Nat → Prop} {w : World} {v : Value} {xs : List α} (h : GRow E e base Y w v xs) (hn : 0 < xs.length) : ∃ g c, v = .slice (some ⟨g, 0, none⟩) xs.length c := by
 obtain ⟨cs, ho, _⟩ := h
 rcases ho.2 with ⟨_, h0⟩ | ⟨g, cap, cur, e1, _⟩
 ·omega
 ·exact ⟨g, cap, e1⟩
theorem grow_size {base : Nat} {T : TypeId} {Y : Nat → Prop} {w : World} {g n cap : Nat} {xs : List Nd} (h : GRow ndE T base Y w (.slice (some ⟨g, 0, none⟩) n cap) xs) : ∃ cur : Array Value, w.heap[g]? = some (.cells cur T (0, 0)) ∧ cur.size = cap * 3 := by
 obtain ⟨cs, ho, _⟩ := h
 rcases ho.2 with ⟨e, _⟩ | ⟨g', cap', cur, e1, _, hg, _, _, h3, _⟩
 ·cases e
 ·simp only [Value.slice.injEq, Option.some.injEq, Addr.mk.injEq] at e1
  obtain ⟨⟨rfl, _⟩, _, rfl⟩ := e1
  exact ⟨cur, hg, h3⟩
theorem grow_ne3 {base : Nat} {T T' : TypeId} {Y : Nat → Prop} {w : World} {g n cap b : Nat} {xs : List Nd} {x y z : Value} {fr : Nat × Nat} (h : GRow ndE T base Y w (.slice (some ⟨g, 0, none⟩) n cap) xs) (hc : cap ≠ 1) (hq : w.heap[b]? = some (.cells #[x, y, z] T' fr)) : b ≠ g := fun e => by
 obtain ⟨cur, hg, hs⟩ := grow_size h
 subst e
 rw [hq] at hg
 cases hg
 simp at hs
 omega
theorem grow_neT {base : Nat} {T T' : TypeId} {Y : Nat → Prop} {w : World} {g n cap b : Nat} {xs : List Nd} {arr : Array Value} {fr : Nat × Nat} (h : GRow ndE T base Y w (.slice (some ⟨g, 0, none⟩) n cap) xs) (hq : w.heap[b]? = some (.cells arr T' fr)) (hT : T' ≠ T) : b ≠ g := fun e => by
 obtain ⟨cur, hg, hs⟩ := grow_size h
 subst e
 rw [hq] at hg
 cases hg
 exact hT rfl
theorem one_lst {S : Nat → Prop} {W : World} {b : Nat} {a0 a1 a2 : Value} {n : Nd} {T : TypeId} {fr : Nat × Nat} (hq : W.heap[b]? = some (.cells #[a0, a1, a2] T fr)) (hn : NdC S W n a0 a1 a2) (hb : S b) : Lst ndE S W (some ⟨b, 0, none⟩) [n] :=
 lst_all hq rfl hb ⟨[a0, a1, a2], [], rfl, ⟨_, _, _, rfl, hn⟩, rfl⟩
theorem turn_nums {a1 : Int} {m : Nat} (ha : 0 ≤ a1 ∧ a1 ≤ 255) (h2 : 2 ≤ m) (h5 : m ≤ 5) : ∃ mm I J : Nat, mm + 1 = m ∧ I < mm ∧ J = I + 1 ∧ IntKind.i64.wrap ((m : Int) - 1) = (mm : Int) ∧ wrap64 ((m : Int) - 1) = (mm : Int) ∧ IntKind.i64.wrap a1 = a1 ∧ Int.tmod a1 (mm : Int) = (I : Int) ∧ wrap64 (I : Int) = (I : Int) ∧ IntKind.i64.wrap (I : Int) = (I : Int) ∧ wrap64 ((I : Int) + 1) = (J : Int) ∧ IntKind.i64.wrap ((I : Int) + 1) = (J : Int) ∧ ((mm : Int) == 0) = false ∧ ¬ (mm : Int) = 0 ∧ (I : Int) < (m : Int) ∧ (J : Int) < (m : Int) := by
 obtain ⟨mm, rfl⟩ : ∃ mm, m = mm + 1 := ⟨m - 1, by omega⟩
 obtain ⟨I, hI⟩ : ∃ I : Nat, a1 % (mm : Int) = I := Int.eq_ofNat_of_zero_le (Int.emod_nonneg _ (by omega))
 have hIm : I < mm := by have := Int.emod_lt_of_pos a1 (show (0 : Int) < mm by omega); omega
 have g4 : Int.tmod a1 (mm : Int) = (I : Int) := (Int.tmod_eq_emod_of_nonneg ha.1).trans hI
 have w : ∀ x : Int, 0 ≤ x ∧ x ≤ 255 → wrap64 x = x := fun x hx => by unfold wrap64; omega
 have k : ∀ x : Int, 0 ≤ x ∧ x ≤ 255 → IntKind.i64.wrap x = x := fun x hx => by rw [IntKind.wrap_i64] <;> omega
 have e : ((mm + 1 : Nat) : Int) - 1 = (mm : Int) := by omega
 have hi5 : 0 ≤ (I : Int) ∧ (I : Int) ≤ 255 := by clear hI g4; omega
 have hj5 : 0 ≤ (I : Int) + 1 ∧ (I : Int) + 1 ≤ 255 := by clear hI g4; omega
 have hm5 : 0 ≤ (mm : Int) ∧ (mm : Int) ≤ 255 := by clear hI g4; omega
 refine ⟨mm, I, I + 1, rfl, hIm, rfl, by rw [e]; exact k _ hm5, by rw [e]; exact w _ hm5, k _ ha, g4, w _ hi5, k _ hi5, by rw [w _ hj5]; rfl, by rw [k _ hj5]; rfl, ?_, ?_, ?_, ?_⟩
 all_goals clear hI g4
 ·rw [beq_eq_false_iff_ne]; omega
 ·omega
 ·omega
 ·omega
theorem known_len (x : Ex) (ho : x.odd = []) : (nodeX x).kids.length ≤ 5 := by
 show (knownN x ks5 ++ x.odd.map extF).length ≤ 5
 rw [ho, List.map_nil, List.append_nil]
 unfold knownN
 rw [List.length_map]
 exact List.length_filter_le _ _
abbrev ZXc : Array Value := #[.bool false, .bool false, .int .i64 0, .int .u16 0, .slice none 0 0, .slice none 0 0, .slice none 0 0, .slice none 0 0, .slice none 0 0]
structure Qs (WL v : World) (row : Option (Nat × Nat × Nat × List Nd)) (b : Option Nat) (a0 a1 a2 : Value) (r : Option Nat) : Prop where
 bel : Below WL.heap.size WL v
 row : ∀ g n c xs, row = some (g, n, c, xs) → GRow ndE 33 WL.heap.size (fun _ => True) v (.slice (some ⟨g, 0, none⟩) n c) xs
 box : ∀ q, b = some q → v.heap[q]? = some (.cells #[a0, a1, a2] 33)
 res : ∀ q, r = some q → WL.heap.size ≤ q ∧ v.heap[q]? = some (.cells ZXc 28)
variable {WL v u : World} {row : Option (Nat × Nat × Nat × List Nd)} {b r : Option Nat} {a0 a1 a2 : Value}
theorem Qs.start (h : Below WL.heap.size WL v) : Qs WL v none none a0 a1 a2 none := ⟨h, fun _ _ _ _ e => (by cases e), fun _ e => (by cases e), fun _ e => (by cases e)⟩
theorem Qs.below (h : Qs WL v row b a0 a1 a2 r) (hb : Below v.heap.size v u) : Qs WL u row b a0 a1 a2 r :=
 ⟨below_then h.bel hb (Nat.le_refl _), fun g n c xs e => (h.row g n c xs e).below (fun _ _ => trivial) hb, fun q e => (hb.block _ (Array.getElem?_eq_some_iff.1 (h.box q e)).1).trans (h.box q e), fun q e => ⟨(h.res q e).1, (hb.block _ (Array.getElem?_eq_some_iff.1 (h.res q e).2).1).trans (h.res q e).2⟩⟩
theorem Qs.empty (h : Qs WL v none b a0 a1 a2 r) : Qs WL (v.alloc (.cells #[] 33)) (some (v.heap.size, 0, 0, [])) b a0 a1 a2 r :=
 ⟨(h.below (below_new _ _)).bel, fun g n c xs e => (by cases e; exact grow_empty h.bel.size (heap_new_ _ _)), (h.below (below_new _ _)).box, (h.below (below_new _ _)).res⟩
theorem Qs.node (h : Qs WL v row none a0 a1 a2 r) : Qs WL (v.alloc (.cells #[a0, a1, a2] 33)) row (some v.heap.size) a0 a1 a2 r :=
 ⟨(h.below (below_new _ _)).bel, (h.below (below_new _ _)).row, fun q e => (by cases e; exact heap_new_ _ _), (h.below (below_new _ _)).res⟩
theorem Qs.exts (h : Qs WL v row b a0 a1 a2 none) : Qs WL (v.alloc (.cells ZXc 28)) row b a0 a1 a2 (some v.heap.size) :=
 ⟨(h.below (below_new _ _)).bel, (h.below (below_new _ _)).row, (h.below (below_new _ _)).box, fun q e => (by cases e; exact ⟨h.bel.size, heap_new_ _ _⟩)⟩
theorem Qs.app5 {e B1 gk off c1 m : Nat} {ks : List Nd} (h : Qs WL v (some (e, 0, 0, [])) b a0 a1 a2 r) (hL : Lst ndE (fun g => g < B1) v (some ⟨gk, off, none⟩) ks) (hB : B1 ≤ WL.heap.size) (hm : ks.length = m) (h2 : 2 ≤ m) (h5 : m ≤ 5) :
 ∃ G C u, (Builtin.append_ #[31, 31] 31 #[.slice (some ⟨e, 0, none⟩) 0 0, .slice (some ⟨gk, off, none⟩) m c1]).run Tryz.prog v = .ok (.slice (some ⟨G, 0, none⟩) m C) u ∧ Qs WL u (some (G, m, C, ks)) b a0 a1 a2 r := by
 have hr := h.row _ _ _ _ rfl
 obtain ⟨v', u, hrun, hrow, hgr⟩ := hr.apps (A := some ⟨gk, off, none⟩) (c := c1) (ys := ks) Tryz.infN (fun _ _ => trivial) 31 (hL.on (Nat.le_refl _) (fun _ _ _ => rfl) (fun g hg hl => ⟨trivial, hl, fun e => by have h1 := (hr.lt g e.symm).1; omega⟩)) (by rw [hm]; simp; omega) (by rw [hm]; simp; unfold maxLen; omega) h.bel.size
 have hown := hr.lt
 rw [List.nil_append] at hrow
 obtain ⟨G, C, rfl⟩ := grow_some hrow (by omega)
 rw [hm] at hrun hrow
 refine ⟨G, C, u, hrun, h.bel.grown hgr h.bel.size (fun j hj => (hown j hj).1), fun g n c xs e => (by cases e; exact hrow), fun q e => ?_, fun q e => ⟨(h.res q e).1, ?_⟩⟩
 ·exact (hgr.block _ (Array.getElem?_eq_some_iff.1 (h.box q e)).1 (fun e' => grow_ne3 hr (by decide) (h.box q e) (by simpa [Value.ownBlock] using e'))).trans (h.box q e)
 ·exact (hgr.block _ (Array.getElem?_eq_some_iff.1 (h.res q e).2).1 (fun e' => grow_neT hr (h.res q e).2 (by decide) (by simpa [Value.ownBlock] using e'))).trans (h.res q e).2
theorem Qs.app12 {G q C B1 m : Nat} {ks : List Nd} {n : Nd} (h : Qs WL v (some (G, m, C, ks)) (some q) a0 a1 a2 r) (hn : NdC (fun g => g < B1) v n a0 a1 a2) (hB : B1 ≤ WL.heap.size) (hm : ks.length = m) (h2 : 2 ≤ m) (h5 : m ≤ 5) :
 ∃ G' C' u, (Builtin.append_ #[31, 31] 31 #[.slice (some ⟨G, 0, none⟩) m C, .slice (some ⟨q, 0, none⟩) 1 1]).run Tryz.prog v = .ok (.slice (some ⟨G', 0, none⟩) (m + 1) C') u ∧ Qs WL u (some (G', m + 1, C', ks ++ [n])) none a0 a1 a2 r := by
 have hr := h.row _ _ _ _ rfl
 have hq := h.box _ rfl
 have hne := grow_ne3 hr (by obtain ⟨_, _, ez, q1, _⟩ := hr.shape; cases ez; omega) hq
 obtain ⟨v', u, hrun, hrow, hgr⟩ := hr.apps (A := some ⟨q, 0, none⟩) (c := 1) (ys := [n]) Tryz.infN (fun _ _ => trivial) 31 (one_lst hq (NdC.mono (fun g hg => (⟨trivial, by have h3 := h.bel.size; omega, fun e => by have h1 := (hr.lt g e.symm).1; omega⟩ : Fr (fun _ => True) _ _ g)) _ _ _ _ hn) ⟨trivial, (Array.getElem?_eq_some_iff.1 hq).1, fun e => hne (by simpa [Value.ownBlock] using e)⟩) (by rw [hm]; simp; omega) (by rw [hm]; simp; unfold maxLen; omega) h.bel.size
 have hown := hr.lt
 obtain ⟨G', C', rfl⟩ := grow_some hrow (by simp)
 rw [show (ks ++ [n]).length = m + 1 by rw [List.length_append, hm]; rfl] at hrun hrow
 refine ⟨G', C', u, hrun, h.bel.grown hgr h.bel.size (fun j hj => (hown j hj).1), fun g n c xs e => (by cases e; exact hrow), fun _ e => (by cases e), fun q e => ⟨(h.res q e).1, ?_⟩⟩
 exact (hgr.block _ (Array.getElem?_eq_some_iff.1 (h.res q e).2).1 (fun e' => grow_neT hr (h.res q e).2 (by decide) (by simpa [Value.ownBlock] using e'))).trans (h.res q e).2
theorem Qs.stored {q : Nat} (h : Qs WL v row b a0 a1 a2 (some q)) : Below WL.heap.size WL (set9 v q (.bool false) (.bool false) (.int .i64 0) (.int .u16 0) (.slice none 0 0) (.slice none 0 0) (.slice none 0 0) (.slice none 0 0) (.slice none 0 0)) := set9_below (h.res _ rfl).1 h.bel _ _ _ _ _ _ _ _ _
theorem Qs.facts {q : Nat} (h : Qs WL v row b a0 a1 a2 (some q)) : (v.frozen? ⟨q, 0, none⟩ = false ∧ v.frozen? ⟨q, 1, none⟩ = false ∧ v.frozen? ⟨q, 2, none⟩ = false ∧ v.frozen? ⟨q, 3, none⟩ = false ∧ v.frozen? ⟨q, 4, none⟩ = false ∧ v.frozen? ⟨q, 5, none⟩ = false ∧ v.frozen? ⟨q, 6, none⟩ = false ∧ v.frozen? ⟨q, 7, none⟩ = false ∧ v.frozen? ⟨q, 8, none⟩ = false) ∧ v.cell? ⟨q, 0, none⟩ = some (.bool false) ∧ v.cell? ⟨q, 1, none⟩ = some (.bool false) ∧ v.cell? ⟨q, 2, none⟩ = some (.int .i64 0) ∧ v.cell? ⟨q, 3, none⟩ = some (.int .u16 0) ∧ v.cell? ⟨q, 4, none⟩ = some (.slice none 0 0) ∧ v.cell? ⟨q, 5, none⟩ = some (.slice none 0 0) ∧ v.cell? ⟨q, 6, none⟩ = some (.slice none 0 0) ∧ v.cell? ⟨q, 7, none⟩ = some (.slice none 0 0) ∧ v.cell? ⟨q, 8, none⟩ = some (.slice none 0 0) :=
 ⟨⟨Lib.frozen_of_heap (h.res _ rfl).2 0, Lib.frozen_of_heap (h.res _ rfl).2 1, Lib.frozen_of_heap (h.res _ rfl).2 2, Lib.frozen_of_heap (h.res _ rfl).2 3, Lib.frozen_of_heap (h.res _ rfl).2 4, Lib.frozen_of_heap (h.res _ rfl).2 5, Lib.frozen_of_heap (h.res _ rfl).2 6, Lib.frozen_of_heap (h.res _ rfl).2 7, Lib.frozen_of_heap (h.res _ rfl).2 8⟩, (Lib.cell_of_heap (h.res _ rfl).2 0).trans rfl, (Lib.cell_of_heap (h.res _ rfl).2 1).trans rfl, (Lib.cell_of_heap (h.res _ rfl).2 2).trans rfl, (Lib.cell_of_heap (h.res _ rfl).2 3).trans rfl, (Lib.cell_of_heap (h.res _ rfl).2 4).trans rfl, (Lib.cell_of_heap (h.res _ rfl).2 5).trans rfl, (Lib.cell_of_heap (h.res _ rfl).2 6).trans rfl, (Lib.cell_of_heap (h.res _ rfl).2 7).trans rfl, (Lib.cell_of_heap (h.res _ rfl).2 8).trans rfl⟩
theorem cells9 {l : List Value} (h : l.length = 9) : ∃ a0 a1 a2 a3 a4 a5 a6 a7 a8, l = [a0, a1, a2, a3, a4, a5, a6, a7, a8] := by
 match l, h with
 | [a0, a1, a2, a3, a4, a5, a6, a7, a8], _ => exact ⟨a0, a1, a2, a3, a4, a5, a6, a7, a8, rfl⟩
set_option maxRecDepth 100000 in
set_option maxHeartbeats 32000000 in
theorem walk (x0 : List dtc.Dt) (c0_0 c0_1 c0_2 c0_3 c0_4 c0_5 c0_6 c0_7 c0_8 : Value) (a1 : Int) (w : World) (s0 : dtc.IsShs [.bool, .bool, .int .i64, .int .u16, .row (.row (.int .i64)), .row (.agg [.str, .row (.str)]), .row (.row (.agg [.row (.int .i64), .str])), .row (.row (.agg [.row (.int .i64), .str])), .row (.agg [.row (.int .i64), .bool, .bys])] x0) (w0 : dtc.LiesAll (fun _ => True) w x0 [c0_0, c0_1, c0_2, c0_3, c0_4, c0_5, c0_6, c0_7, c0_8]) (y0 : dtc.fitDts x0) (w1 : (Lit.int .u8 a1).wf = true) (hT : txc.Tabs w) :
 Calls Tryz.prog 6 #[.agg #[c0_0, c0_1, c0_2, c0_3, c0_4, c0_5, c0_6, c0_7, c0_8], .int .u8 a1] w fun e w' => e = .returned (.bool true) ∧ Below w.heap.size w w' := by
 have mixed : Tryz.prog.follows Departure.mixedOrders = true := by kernel_rfl
 obtain ⟨x, hx⟩ := ex_of s0 w0 y0
 obtain ⟨q0, q1, q2, q3, B4, q4, j4, B5, q5, j5, B6, q6, j6, B7, q7, j7, B8, q8, j8, rfl, rfl, rfl, rfl, rfl, rfl, rfl, rfl, rfl⟩ := exC_shape hx
 have hi := bounds_u8 w1
 have hx0 : ExC (fun _ => True) w { x with odd := [] } (.bool q0) (.bool q1) (.int .i64 q2) (.int .u16 q3) (.slice B4 q4 j4) (.slice B5 q5 j5) (.slice B6 q6 j6) (.slice B7 q7 j7) (.slice none 0 0) := ⟨hx.has, hx.ca, hx.path, hx.i64, hx.usage, hx.u16, hx.eku, hx.princs, hx.permit, hx.exclude, LsC.nil⟩
 obtain ⟨y, hy⟩ : ∃ y, ({ x with odd := [] } : Ex) = y := ⟨_, rfl⟩
 rw [hy] at hx0
 have hyo : y.odd = [] := by rw [← hy]
 obtain ⟨W0, hW0⟩ : ∃ z, w.alloc (.cells #[.bool q0, .bool q1, .int .i64 q2, .int .u16 q3, .slice B4 q4 j4, .slice B5 q5 j5, .slice B6 q6 j6, .slice B7 q7 j7, .slice B8 q8 j8] 28) = z := ⟨_, rfl⟩
 have hb0 : Below w.heap.size w W0 := by rw [← hW0]; exact below_new _ _
 have p0 : W0.heap[w.heap.size]? = some (.cells #[.bool q0, .bool q1, .int .i64 q2, .int .u16 q3, .slice B4 q4 j4, .slice B5 q5 j5, .slice B6 q6 j6, .slice B7 q7 j7, .slice B8 q8 j8] 28) := by rw [← hW0]; exact heap_new_ _ _
 have HH := Lib.hid (head10_any W0 (hT.below hb0))
 have HX := Lib.hid (And.intro hx0 (And.intro hyo (And.intro hb0 (And.intro p0 hT))))
 clear hx hx0 hy hyo hb0 p0 hT s0 w0 y0 w1
 go_enter Tryz.func6, Tryz.ntmps6
 go_wp2_with fail
 refine HH.out.mono ?_
 rintro e wa ⟨rfl, hba⟩
 have pa := (hba.block _ (Array.getElem?_eq_some_iff.1 HX.out.2.2.2.1).1).trans HX.out.2.2.2.1
 have f8 := Lib.frozen_of_heap pa 8
 have s8 := (Lib.cell_of_heap pa 8).trans rfl
 have pv : (wa.setCell ⟨w.heap.size, 8, none⟩ (.slice none 0 0)).heap[w.heap.size]? = some (.cells #[.bool q0, .bool q1, .int .i64 q2, .int .u16 q3, .slice B4 q4 j4, .slice B5 q5 j5, .slice B6 q6 j6, .slice B7 q7 j7, .slice none 0 0] 28) := set_heap _ _ 8 (.slice none 0 0) _ _ _ pa
 have hbV : Below w.heap.size w (wa.setCell ⟨w.heap.size, 8, none⟩ (.slice none 0 0)) := (below_then HX.out.2.2.1 hba (Nat.le_refl _)).setCell (p := ⟨w.heap.size, 8, none⟩) (Nat.le_refl _) (.slice none 0 0)
 obtain ⟨d0, d1, d2, d3, d4, d5, d6, d7, d8⟩ := box9 (Below.refl _ _) pv
 have hput := putE_any (fun _ => True) y _ _ _ _ _ _ _ _ _ (wa.setCell ⟨w.heap.size, 8, none⟩ (.slice none 0 0)) (HX.out.1.below hbV) (HX.out.2.2.2.2.below hbV)
 rw [putX_right HX.out.1.u16] at hput
 have HV := Lib.hid hbV
 obtain ⟨rr, hrr⟩ : ∃ z, rightX y = z := ⟨_, rfl⟩
 rw [hrr] at hput
 have HP := Lib.hid hput
 have HRR := Lib.hid hrr
 clear pa pv hbV hput hrr hba HH
 go_wp2_with fail
 refine HP.out.mono ?_
 rintro e w1 ⟨hb1, hpost⟩
 have hbw1 := below_then HV.out hb1 (Nat.le_refl _)
 clear d0 d1 d2 d3 d4 d5 d6 d7 d8 f8 s8
 cases rr
 ·rw [if_neg (by decide)] at hpost
  obtain rfl := hpost
  have HE := Lib.hid (below_then hbw1 (below_new w1 (.cells #[.int .u8 0, .slice none 0 0, .slice none 0 0] 33)) (Nat.le_refl _))
  clear hb1 hbw1 HP HV HRR HX
  go_wp2_with fail
  go_ret
  exact ⟨rfl, HE.out⟩
 ·rw [if_pos rfl] at hpost
  obtain ⟨t1, A1, l1, i1, K1, m, c1, rfl, hn1⟩ := hpost
  obtain ⟨ks, hks⟩ : ∃ z, (nodeX y).kids = z := ⟨_, rfl⟩
  have hnk : nodeX y = .mk 48 [] ks := by rw [← hks]; rfl
  rw [hnk] at hn1
  have hlk : m = ks.length := nd_len hn1
  have hm5 : m ≤ 5 := by rw [hlk, ← hks]; exact known_len y HX.out.2.1
  obtain ⟨ht1, _, _, K1', c1', hK, hkc, hkm, hLst⟩ := NdC.kidsL hn1
  cases hK
  obtain rfl : t1 = 48 := by simpa using ht1
  have hbn := below_new w1 (.cells #[.int .u8 48, .slice A1 l1 i1, .slice K1 ks.length c1] 33)
  have pn := heap_new_ w1 (.cells #[.int .u8 48, .slice A1 l1 i1, .slice K1 ks.length c1] 33)
  have HB := Lib.hid (And.intro (below_then hbw1 hbn (Nat.le_refl _)) (And.intro pn (And.intro (hLst.boundS.below hbn) (And.intro hkc (And.intro hkm hks)))))
  obtain ⟨m, hm⟩ : ∃ z, ks.length = z := ⟨_, rfl⟩
  rw [hm] at hm5 HB ⊢
  have HM := Lib.hid hm
  have h9 : c1 ≤ 9223372036854775807 := by unfold maxLen at hkm; omega
  clear hks hnk hlk ht1 hkc hkm hLst hbn pn hm hn1 hb1 hbw1 HP HV
  by_cases h2 : m < 2
  ·have h2z : (m : Int) < 2 := by omega
   have HE := Lib.hid HB.out.1
   clear HB HM HX HRR
   go_wp2_with fail
   go_ret
   exact ⟨rfl, HE.out⟩
  ·have hnums := turn_nums (a1 := a1) (m := m) (by omega) (by omega) hm5
   obtain ⟨mm, I, J, hmm, hIm, hJ, hrest⟩ := hnums
   have HG4 := Lib.hid hrest
   clear hrest
   have HIJ := Lib.hid (And.intro (show J = I + 1 from hJ) (show I + 1 < ks.length by rw [HM.out]; omega))
   have hIk : I < ks.length := by have := HIJ.out; omega
   have hJk : J < ks.length := by have := HIJ.out; omega
   obtain ⟨gk, off, tj, Aj, lj, ij, Kj, mj, nj, rfl, j0n, j1n, j2n, hnjN⟩ := nd_cells HB.out.2.2.1 (Below.refl _ (w1.alloc (.cells #[.int .u8 48, .slice A1 l1 i1, .slice K1 m c1] 33))) J hJk
   obtain ⟨gk', off', ti, Ai, li, ii, Ki, mi, ni, ek, k0n, k1n, k2n, hniN⟩ := nd_cells HB.out.2.2.1 (Below.refl _ (w1.alloc (.cells #[.int .u8 48, .slice A1 l1 i1, .slice (some ⟨gk, off, none⟩) m c1] 33))) I hIk
   cases ek
   have hbe := below_new (w1.alloc (.cells #[.int .u8 48, .slice A1 l1 i1, .slice (some ⟨gk, off, none⟩) m c1] 33)) (.cells #[] 33)
   have hrow0 : GRow ndE 33 (w1.heap.size + 1) (fun _ => True) ((w1.alloc (.cells #[.int .u8 48, .slice A1 l1 i1, .slice (some ⟨gk, off, none⟩) m c1] 33)).alloc (.cells #[] 33)) (.slice (some ⟨w1.heap.size + 1, 0, none⟩) 0 0) [] := grow_empty (Nat.le_refl _) (heap_is (by simp))
   obtain ⟨v7, w7, hrun, hrow, hgr⟩ := hrow0.apps (A := some ⟨gk, off, none⟩) (c := c1) (ys := ks) Tryz.infN (fun _ _ => trivial) 31 (HB.out.2.2.1.on hbe.size (fun g _ hg => hbe.block g hg) (fun g hg hl => ⟨trivial, by have := hg.2; simp; omega, fun e => by cases e; exact absurd hg.2 (by show ¬ (w1.heap.size + 1 < w1.heap.size); omega)⟩)) (by rw [HM.out]; simp; omega) (by rw [HM.out]; simp; unfold maxLen; omega) (by simp)
   have hb7 := hbe.grown hgr hbe.size (fun j hj => by have := (hrow0.lt j hj).1; simp; omega)
   rw [List.nil_append] at hrow
   obtain ⟨G7, c7, rfl⟩ := grow_some hrow (by rw [HM.out]; omega)
   have hTu : Tu (w1.alloc (.cells #[.int .u8 48, .slice A1 l1 i1, .slice (some ⟨gk, off, none⟩) m c1] 33)) w7 G7 c7 ks 33 := Tu.of hb7 (by rw [show (w1.alloc (.cells #[.int .u8 48, .slice A1 l1 i1, .slice (some ⟨gk, off, none⟩) m c1] 33)).heap.size = w1.heap.size + 1 by simp]; exact hrow)
   rw [HM.out] at hrun
   have j0 := cell_on hTu.bel j0n
   have j1 := cell_on hTu.bel j1n
   have j2 := cell_on hTu.bel j2n
   have hnj := NdC.below hTu.bel _ _ _ _ hnjN
   obtain ⟨t8, A8, l8, i8, K8, m8, n8, s0, s1, s2, cur8, hq8⟩ := hTu.old (i := I) (by have := HIJ.out; omega)
   have f0 := Lib.frozen_of_heap hq8 (I * 3)
   have f1 := Lib.frozen_of_heap hq8 (I * 3 + 1)
   have f2 := Lib.frozen_of_heap hq8 (I * 3 + 2)
   have hGe := hTu.here
   have hTu8 := hTu.put (i := I) (by have := HIJ.out; omega) (NdC.mono (fun g hg => by have := hg.2; simp at hGe; omega) _ _ _ _ hnj)
   have k0 := cell_on hTu8.bel k0n
   have k1 := cell_on hTu8.bel k1n
   have k2 := cell_on hTu8.bel k2n
   have hni := NdC.below hTu8.bel _ _ _ _ hniN
   obtain ⟨t9, A9, l9, i9, K9, m9, n9, u0, u1, u2, cur9, hq9⟩ := hTu8.old (i := J) (by rw [List.length_set]; have := HIJ.out; omega)
   have f3 := Lib.frozen_of_heap hq9 (J * 3)
   have f4 := Lib.frozen_of_heap hq9 (J * 3 + 1)
   have f5 := Lib.frozen_of_heap hq9 (J * 3 + 2)
   have hTu9 := hTu8.put (i := J) (by rw [List.length_set]; have := HIJ.out; omega) (NdC.mono (fun g hg => by have := hg.2; simp at hGe; omega) _ _ _ _ hni)
   obtain ⟨x0, x1, x2⟩ := box_nd hTu.bel HB.out.2.1
   obtain ⟨y0, y1, y2⟩ := box_nd hTu8.bel HB.out.2.1
   obtain ⟨z0, z1, z2⟩ := box_nd hTu9.bel HB.out.2.1
   have hswl : ((ks.set I (ks[J]'(hJk))).set J (ks[I]'(hIk))).length = m := by rw [List.length_set, List.length_set, HM.out]
   have hsw : getX (.mk 48 [] ((ks.set I (ks[J]'(hJk))).set J (ks[I]'(hIk)))) = none := by
    have hh := HIJ.out
    obtain ⟨rfl, hh2⟩ := hh
    exact turned_no HRR.out HX.out.2.1 HB.out.2.2.2.2.2 hh2
   have hbw9 := below_then HB.out.1 hTu9.bel (Nat.le_refl _)
   have hcap9 := hTu9.caps
   have hlst9 := hTu9.lst
   obtain ⟨sw, hsw0⟩ : ∃ z, (ks.set I (ks[J]'(hJk))).set J (ks[I]'(hIk)) = z := ⟨_, rfl⟩
   rw [hsw0] at hswl hsw hcap9 hlst9
   have hnd9 := ndC_of (t := 48) (by decide) hcap9.1 hcap9.2 hlst9
   rw [hswl] at hnd9
   have hget := getE_any (fun _ => True) _ _ _ _ _ hnd9 (HX.out.2.2.2.2.below hbw9)
   rw [hsw] at hget
   have HG := Lib.hid hget
   have HT9 := Lib.hid hTu9.bel
   have HB9 := Lib.hid hbw9
   have HK := Lib.hid (And.intro k0n (And.intro k1n (And.intro k2n hniN)))
   clear hTu hTu8 hTu9 hnj hni hq8 hq9 hGe hnjN hniN j0n j1n j2n k0n k1n k2n hswl hsw hsw0 hbw9 hcap9 hlst9 hnd9 hget hrow hrow0 hgr hb7 hbe hIm hJ
   obtain ⟨g1, g2, g3, g4, g5, g6, g7, g8, g9, g10, g11, g12⟩ := HG4.out
   have g0 : ¬ (m : Int) < 2 := by clear g4; omega
   have HN2 := Lib.hid (And.intro h2 hm5)
   clear hmm h2 hm5 hi
   have H8 := Lib.hid (And.intro y2 (And.intro k0 (And.intro k1 (And.intro k2 (And.intro u0 (And.intro u1 (And.intro u2 (And.intro f3 (And.intro f4 f5)))))))))
   have H9 := Lib.hid (And.intro z0 z2)
   clear y0 y1 y2 k0 k1 k2 u0 u1 u2 f3 f4 f5 z0 z1 z2
   go_upto_region 9 with (at_builtin; refine wpl_append rfl (.tmp 37) (.tmp 39) 31 rfl _ _ _ rfl rfl hrun ?_)
   clear hrun
   obtain ⟨W8, hW8⟩ : ∃ z, (((w7.setCell ⟨G7, I * 3, none⟩ (.int .u8 tj)).setCell ⟨G7, I * 3 + 1, none⟩ (.slice Aj lj ij)).setCell ⟨G7, I * 3 + 2, none⟩ (.slice Kj mj nj)) = z := ⟨_, rfl⟩
   obtain ⟨y2, k0, k1, k2, u0, u1, u2, f3, f4, f5⟩ := H8.out
   rw [hW8] at y2 k0 k1 k2 u0 u1 u2 f3 f4 f5 ⊢
   have HW8 := Lib.hid hW8
   clear hW8 x0 x1 x2 j0 j1 j2 s0 s1 s2 f0 f1 f2
   go_upto_region 10 with fail
   obtain ⟨W9, hW9⟩ : ∃ z, (((W8.setCell ⟨G7, J * 3, none⟩ (.int .u8 ti)).setCell ⟨G7, J * 3 + 1, none⟩ (.slice Ai li ii)).setCell ⟨G7, J * 3 + 2, none⟩ (.slice Ki mi ni)) = z := ⟨_, rfl⟩
   obtain ⟨z0, z2⟩ := H9.out
   rw [HW8.out, hW9] at z0 z2
   rw [hW9]
   have hg9 := HG.out
   rw [HW8.out, hW9] at hg9
   have HG9 := Lib.hid hg9
   have hT9 := HT9.out
   rw [HW8.out, hW9] at hT9
   have HT9 := Lib.hid hT9
   clear hW9 hg9 hT9 y2 k0 k1 k2 u0 u1 u2 f3 f4 f5 HG H8 H9 HW8
   go_wp2_with fail
   refine HG9.out.mono ?_
   rintro e w10 ⟨hb10, rfl⟩
   clear g4 HG4 g1 g2 g3 g5 g6 g7 g8 g9 g10
   obtain ⟨h2, hm5⟩ := HN2.out
   have hbx := below_new w10 (.cells #[.bool false, .bool false, .int .i64 0, .int .u16 0, .slice none 0 0, .slice none 0 0, .slice none 0 0, .slice none 0 0, .slice none 0 0] 28)
   obtain ⟨WL, hWL⟩ : ∃ z, w10.alloc (.cells #[.bool false, .bool false, .int .i64 0, .int .u16 0, .slice none 0 0, .slice none 0 0, .slice none 0 0, .slice none 0 0, .slice none 0 0] 28) = z := ⟨_, rfl⟩
   rw [hWL] at hbx
   have hbL := below_then HT9.out (below_then hb10 hbx (Nat.le_refl _)) (Nat.le_refl _)
   have HBL := Lib.hid hbL
   have HW := fun (W : World) (hW : Below WL.heap.size WL W) => below_then HBL.out hW (Nat.le_refl _)
   have HS : Hid (∀ wx, Below WL.heap.size WL wx → wx.cell? ⟨w1.heap.size, 0, none⟩ = some (.int .u8 48) ∧ wx.cell? ⟨w1.heap.size, 2, none⟩ = some (.slice (some ⟨gk, off, none⟩) m c1) ∧ wx.cell? ⟨gk, off + I * 3, none⟩ = some (.int .u8 ti) ∧ wx.cell? ⟨gk, off + I * 3 + 1, none⟩ = some (.slice Ai li ii) ∧ wx.cell? ⟨gk, off + I * 3 + 2, none⟩ = some (.slice Ki mi ni)) := Lib.hid fun wx hW => by
    obtain ⟨z0, _, z2⟩ := box_nd (HW wx hW) HB.out.2.1
    exact ⟨z0, z2, cell_on (HW wx hW) HK.out.1, cell_on (HW wx hW) HK.out.2.1, cell_on (HW wx hW) HK.out.2.2.1⟩
   have HNI := Lib.hid (fun W (hW : Below WL.heap.size WL W) => NdC.mono (B' := fun g => g < w1.heap.size) (fun g hg => hg.2) _ _ _ _ (NdC.below (HW W hW) _ _ _ _ HK.out.2.2.2))
   have HL := Lib.hid (fun W (hW : Below WL.heap.size WL W) => (HB.out.2.2.1.below (HW W hW)).mono (fun g hg => hg.2))
   have HWL := Lib.hid (show w1.heap.size ≤ WL.heap.size from by have := hbL.size; simp at this; omega)
   have HBW := Lib.hid (fun W (hW : Below WL.heap.size WL W) => below_then HB.out.1 (HW W hW) (Nat.le_refl _))
   have HTB := Lib.hid (fun W (hW : Below WL.heap.size WL W) => HX.out.2.2.2.2.below (HBW.out W hW))
   have HIK := Lib.hid (show I < ks.length from by have := HIJ.out; omega)
   have HTW := Lib.hid (twice_no HRR.out HX.out.2.1 HB.out.2.2.2.2.2 HIK.out)
   have HWL0 := Lib.hid hWL
   clear hbx hWL hb10 hbL HW HT9 HB9 HK HG9 HRR HIJ z0 z2
   go_wp2_with fail
   try dsimp only
   (try rw [HWL0.out])
   try dsimp only
   have h2' : 2 ≤ m := by omega
   have HGET : Hid (∀ (v : World) (G C : Nat), Below WL.heap.size WL v → GRow ndE 33 WL.heap.size (fun _ => True) v (.slice (some ⟨G, 0, none⟩) (m + 1) C) (ks ++ [ks[I]'(HIK.out)]) → Calls Tryz.prog 13 #[.agg #[.int .u8 48, .slice none 0 0, .slice (some ⟨G, 0, none⟩) (m + 1) C]] v (XGet v none)) := Lib.hid fun v G C hb hrow => by
    obtain ⟨_, _, ez, q1, q2, hl12⟩ := hrow.lst (fun _ _ => trivial)
    have hnd := ndC_of (t := 48) (by decide) q1 q2 hl12
    have hget := getE_any (fun _ => True) _ _ _ _ _ hnd (HTB.out _ hb)
    rw [HTW.out] at hget
    simp only [Value.slice.injEq] at ez
    obtain ⟨e1, e2, e3⟩ := ez
    rw [← e1, ← e2, ← e3] at hget
    exact hget
   try dsimp only
   refine wp_region_noPanic ?_
   refine wp_region_held_drew (S := fun wx : World => wx.cell? ⟨w1.heap.size, 0, none⟩ = some (.int .u8 48) ∧ wx.cell? ⟨w1.heap.size, 2, none⟩ = some (.slice (some ⟨gk, off, none⟩) m c1) ∧ wx.cell? ⟨gk, off + I * 3, none⟩ = some (.int .u8 ti) ∧ wx.cell? ⟨gk, off + I * 3 + 1, none⟩ = some (.slice Ai li ii) ∧ wx.cell? ⟨gk, off + I * 3 + 2, none⟩ = some (.slice Ki mi ni)) mixed (HS.out WL (Below.refl _ _)) (fun hHeld => ?_)
   have hbd := below_drew WL
   obtain ⟨wd, hwd⟩ : ∃ x, WL.drew = x := ⟨_, rfl⟩
   rw [hwd] at hHeld hbd ⊢
   clear hwd
   have hQ : Qs WL wd none none (.int .u8 ti) (.slice Ai li ii) (.slice Ki mi ni) none := Qs.start hbd
   (refine wpAnyH_take (i := 0) (oi := ⟨_, _, _, _, _, _⟩) (v := ?_) rfl (by kernel_rfl) (by kernel_rfl) (by kernel_rfl) (fun _ _ _ h => h) (Or.inl ⟨by rfl, ?_⟩) (by assumption) ?_; rotate_left; focus (intro wS hSw; (first | obtain ⟨e1, e2, e3, e4, e5⟩ := hSw | skip); go_simp; (try with_reducible rfl); done); (try simp only [Act.put, List.setIfInBounds_toArray, List.set_cons_zero, List.set_cons_succ]))
   (refine wpAnyH_take (i := 3) (oi := ⟨_, _, _, _, _, _⟩) (v := ?_) rfl (by kernel_rfl) (by kernel_rfl) (by kernel_rfl) (fun _ _ _ h => h) (Or.inl ⟨by rfl, ?_⟩) (by assumption) ?_; rotate_left; focus (intro wS hSw; (first | obtain ⟨e1, e2, e3, e4, e5⟩ := hSw | skip); go_simp; (try with_reducible rfl); done); (try simp only [Act.put, List.setIfInBounds_toArray, List.set_cons_zero, List.set_cons_succ]))
   (refine wpAnyH_take (i := 6) (oi := ⟨_, _, _, _, _, _⟩) (v := ?_) rfl (by kernel_rfl) (by kernel_rfl) (by kernel_rfl) (fun _ _ _ h => h) (Or.inl ⟨by rfl, ?_⟩) (by assumption) ?_; rotate_left; focus (intro wS hSw; (first | obtain ⟨e1, e2, e3, e4, e5⟩ := hSw | skip); go_simp; (try with_reducible rfl); done); (try simp only [Act.put, List.setIfInBounds_toArray, List.set_cons_zero, List.set_cons_succ]))
   (refine wpAnyH_take (i := 8) (oi := ⟨_, _, _, _, _, _⟩) (v := ?_) rfl (by kernel_rfl) (by kernel_rfl) (by kernel_rfl) (fun _ _ _ h => h) (Or.inl ⟨by rfl, ?_⟩) (by assumption) ?_; rotate_left; focus (intro wS hSw; (first | obtain ⟨e1, e2, e3, e4, e5⟩ := hSw | skip); go_simp; (try with_reducible rfl); done); (try simp only [Act.put, List.setIfInBounds_toArray, List.set_cons_zero, List.set_cons_succ]))
   (refine wpAnyH_take (i := 1) (oi := ⟨_, _, _, _, _, _⟩) (v := ?_) rfl (by kernel_rfl) (by kernel_rfl) (by kernel_rfl) (fun _ _ _ h => h) (Or.inl ⟨by rfl, ?_⟩) (by assumption) ?_; rotate_left; focus (intro wS hSw; (first | obtain ⟨e1, e2, e3, e4, e5⟩ := hSw | skip); go_simp; (try with_reducible rfl); done); (try simp only [Act.put, List.setIfInBounds_toArray, List.set_cons_zero, List.set_cons_succ]))
   (refine wpAnyH_take (i := 4) (oi := ⟨_, _, _, _, _, _⟩) (v := ?_) rfl (by kernel_rfl) (by kernel_rfl) (by kernel_rfl) (fun _ _ _ h => h) (Or.inl ⟨by rfl, ?_⟩) (by assumption) ?_; rotate_left; focus (intro wS hSw; (first | obtain ⟨e1, e2, e3, e4, e5⟩ := hSw | skip); go_simp; (try with_reducible rfl); done); (try simp only [Act.put, List.setIfInBounds_toArray, List.set_cons_zero, List.set_cons_succ]))
   (refine wpAnyH_take (i := 7) (oi := ⟨_, _, _, _, _, _⟩) (v := ?_) rfl (by kernel_rfl) (by kernel_rfl) (by kernel_rfl) (fun _ _ _ h => h) (Or.inl ⟨by rfl, ?_⟩) (by assumption) ?_; rotate_left; focus (intro wS hSw; (first | obtain ⟨e1, e2, e3, e4, e5⟩ := hSw | skip); go_simp; (try with_reducible rfl); done); (try simp only [Act.put, List.setIfInBounds_toArray, List.set_cons_zero, List.set_cons_succ]))
   (refine wpAnyH_take (i := 9) (oi := ⟨_, _, _, _, _, _⟩) (v := ?_) rfl (by kernel_rfl) (by kernel_rfl) (by kernel_rfl) (fun _ _ _ h => h) (Or.inl ⟨by rfl, ?_⟩) (by assumption) ?_; rotate_left; focus (intro wS hSw; (first | obtain ⟨e1, e2, e3, e4, e5⟩ := hSw | skip); go_simp; (try with_reducible rfl); done); (try simp only [Act.put, List.setIfInBounds_toArray, List.set_cons_zero, List.set_cons_succ]))
   (refine wpAnyH_take (i := 10) (oi := ⟨_, _, _, _, _, _⟩) (v := ?_) rfl (by kernel_rfl) (by kernel_rfl) (by kernel_rfl) (fun _ _ _ h => h) (Or.inl ⟨by rfl, ?_⟩) (by assumption) ?_; rotate_left; focus (intro wS hSw; (first | obtain ⟨e1, e2, e3, e4, e5⟩ := hSw | skip); go_simp; (try with_reducible rfl); done); (try simp only [Act.put, List.setIfInBounds_toArray, List.set_cons_zero, List.set_cons_succ]))
   refine wpAnyH_ready (rs := [2, 11, 18]) (by kernel_rfl) (by simp) ?_
   refine AllReadyH.cons (o := ⟨_, _, _, _, _, _⟩) rfl (fun KK hKK => ?_) (AllReadyH.cons (o := ⟨_, _, _, _, _, _⟩) rfl (fun KK hKK => ?_) (AllReadyH.cons (o := ⟨_, _, _, _, _, _⟩) rfl (fun KK hKK => ?_) AllReadyH.nil))
   ·go_simp
    have hQ := hQ.empty
    refine hKK.out _ _ (HS.out _ hQ.bel) (fun hHeld2 => ?_)
    clear hKK KK hHeld
    have hHeld := hHeld2
    clear hHeld2
    try simp only [Act.put, List.setIfInBounds_toArray, List.set_cons_zero, List.set_cons_succ]
    obtain ⟨u1, hu⟩ : ∃ z, wd.alloc (.cells #[] 33) = z := ⟨_, rfl⟩
    rw [hu] at hHeld hQ ⊢
    clear hu
    obtain ⟨e2, hu⟩ : ∃ z, wd.heap.size = z := ⟨_, rfl⟩
    rw [hu] at hQ ⊢
    clear hu
    refine wpAnyH_ready (rs := [5, 11, 18]) (by kernel_rfl) (by simp) ?_
    refine AllReadyH.cons (o := ⟨_, _, _, _, _, _⟩) rfl (fun KK hKK => ?_) (AllReadyH.cons (o := ⟨_, _, _, _, _, _⟩) rfl (fun KK hKK => ?_) (AllReadyH.cons (o := ⟨_, _, _, _, _, _⟩) rfl (fun KK hKK => ?_) AllReadyH.nil))
    ·obtain ⟨G5, C5, u2, hrun, hQ⟩ := hQ.app5 (c1 := c1) (HL.out _ hQ.bel) HWL.out HM.out h2' hm5
     refine step_run rfl (.tmp 70) (.tmp 72) 31 rfl _ _ _ (by first | rfl | simp [Act.eval, Act.put]) (by first | rfl | simp [Act.eval, Act.put]) hrun (hKK.out _ _ (HS.out _ hQ.bel) (fun hHeld2 => ?_))
     clear hrun
     clear hKK KK hHeld
     have hHeld := hHeld2
     clear hHeld2
     try simp only [Act.put, List.setIfInBounds_toArray, List.set_cons_zero, List.set_cons_succ]
     refine wpAnyH_ready (rs := [11, 18]) (by kernel_rfl) (by simp) ?_
     refine AllReadyH.cons (o := ⟨_, _, _, _, _, _⟩) rfl (fun KK hKK => ?_) (AllReadyH.cons (o := ⟨_, _, _, _, _, _⟩) rfl (fun KK hKK => ?_) AllReadyH.nil)
     ·go_simp
      have hQ := hQ.node
      refine hKK.out _ _ (HS.out _ hQ.bel) (fun hHeld2 => ?_)
      clear hKK KK hHeld
      have hHeld := hHeld2
      clear hHeld2
      try simp only [Act.put, List.setIfInBounds_toArray, List.set_cons_zero, List.set_cons_succ]
      obtain ⟨u3, hu⟩ : ∃ z, u2.alloc (.cells #[.int .u8 ti, .slice Ai li ii, .slice Ki mi ni] 33) = z := ⟨_, rfl⟩
      rw [hu] at hHeld hQ ⊢
      clear hu
      obtain ⟨b11, hu⟩ : ∃ z, u2.heap.size = z := ⟨_, rfl⟩
      rw [hu] at hQ ⊢
      clear hu
      refine wpAnyH_ready (rs := [12, 18]) (by kernel_rfl) (by simp) ?_
      refine AllReadyH.cons (o := ⟨_, _, _, _, _, _⟩) rfl (fun KK hKK => ?_) (AllReadyH.cons (o := ⟨_, _, _, _, _, _⟩) rfl (fun KK hKK => ?_) AllReadyH.nil)
      ·obtain ⟨G12, C12, u4, hrun, hQ⟩ := hQ.app12 (HNI.out _ hQ.bel) HWL.out HM.out h2' hm5
       refine step_run rfl (.tmp 73) (.tmp 79) 31 rfl _ _ _ (by first | rfl | simp [Act.eval, Act.put]) (by first | rfl | simp [Act.eval, Act.put]) hrun (hKK.out _ _ (HS.out _ hQ.bel) (fun hHeld2 => ?_))
       clear hrun
       clear hKK KK hHeld
       have hHeld := hHeld2
       clear hHeld2
       try simp only [Act.put, List.setIfInBounds_toArray, List.set_cons_zero, List.set_cons_succ]
       (refine wpAnyH_take (i := 13) (oi := ⟨_, _, _, _, _, _⟩) (v := ?_) rfl (by kernel_rfl) (by kernel_rfl) (by kernel_rfl) (fun _ _ _ h => h) (Or.inl ⟨by rfl, ?_⟩) (by assumption) ?_; rotate_left; focus (intro wS hSw; (first | obtain ⟨e1, e2, e3, e4, e5⟩ := hSw | skip); go_simp; (try with_reducible rfl); done); (try simp only [Act.put, List.setIfInBounds_toArray, List.set_cons_zero, List.set_cons_succ]))
       refine wpAnyH_ready (rs := [14, 18]) (by kernel_rfl) (by simp) ?_
       refine AllReadyH.cons (o := ⟨_, _, _, _, _, _⟩) rfl (fun KK hKK => ?_) (AllReadyH.cons (o := ⟨_, _, _, _, _, _⟩) rfl (fun KK hKK => ?_) AllReadyH.nil)
       ·go_simp
        refine (HGET.out _ _ _ hQ.bel (hQ.row _ _ _ _ rfl)).mono ?_
        rintro e u5 ⟨hb, rfl⟩
        dsimp only
        have hQ := hQ.below hb
        clear hb
        refine hKK.out _ _ (HS.out _ hQ.bel) (fun hHeld2 => ?_)
        clear hKK KK hHeld
        have hHeld := hHeld2
        clear hHeld2
        try simp only [Act.put, List.setIfInBounds_toArray, List.set_cons_zero, List.set_cons_succ]
        (refine wpAnyH_take (i := 15) (oi := ⟨_, _, _, _, _, _⟩) (v := ?_) rfl (by kernel_rfl) (by kernel_rfl) (by kernel_rfl) (fun _ _ _ h => h) (Or.inl ⟨by rfl, ?_⟩) (by assumption) ?_; rotate_left; focus (intro wS hSw; (first | obtain ⟨e1, e2, e3, e4, e5⟩ := hSw | skip); go_simp; (try with_reducible rfl); done); (try simp only [Act.put, List.setIfInBounds_toArray, List.set_cons_zero, List.set_cons_succ]))
        (refine wpAnyH_take (i := 16) (oi := ⟨_, _, _, _, _, _⟩) (v := ?_) rfl (by kernel_rfl) (by kernel_rfl) (by kernel_rfl) (fun _ _ _ h => h) (Or.inl ⟨by rfl, ?_⟩) (by assumption) ?_; rotate_left; focus (intro wS hSw; (first | obtain ⟨e1, e2, e3, e4, e5⟩ := hSw | skip); go_simp; (try with_reducible rfl); done); (try simp only [Act.put, List.setIfInBounds_toArray, List.set_cons_zero, List.set_cons_succ]))
        (refine wpAnyH_take (i := 17) (oi := ⟨_, _, _, _, _, _⟩) (v := ?_) rfl (by kernel_rfl) (by kernel_rfl) (by kernel_rfl) (fun _ _ _ h => h) (Or.inl ⟨by rfl, ?_⟩) (by assumption) ?_; rotate_left; focus (intro wS hSw; (first | obtain ⟨e1, e2, e3, e4, e5⟩ := hSw | skip); go_simp; (try with_reducible rfl); done); (try simp only [Act.put, List.setIfInBounds_toArray, List.set_cons_zero, List.set_cons_succ]))
        refine wpAnyH_ready (rs := [18]) (by kernel_rfl) (by simp) ?_
        refine AllReadyH.cons (o := ⟨_, _, _, _, _, _⟩) rfl (fun KK hKK => ?_) AllReadyH.nil
        go_simp
        have hQ := hQ.exts
        refine hKK.out _ _ (HS.out _ hQ.bel) (fun hHeld2 => ?_)
        clear hKK KK hHeld
        have hHeld := hHeld2
        clear hHeld2
        try simp only [Act.put, List.setIfInBounds_toArray, List.set_cons_zero, List.set_cons_succ]
        obtain ⟨u6, hu⟩ : ∃ z, u5.alloc (.cells #[.bool false, .bool false, .int .i64 0, .int .u16 0, .slice none 0 0, .slice none 0 0, .slice none 0 0, .slice none 0 0, .slice none 0 0] 28) = z := ⟨_, rfl⟩
        rw [hu] at hHeld hQ ⊢
        clear hu
        obtain ⟨r18, hu⟩ : ∃ z, u5.heap.size = z := ⟨_, rfl⟩
        rw [hu] at hQ ⊢
        clear hu
        obtain ⟨⟨f0, f1, f2, f3, f4, f5, f6, f7, f8⟩, s0, s1, s2, s3, s4, s5, s6, s7, s8⟩ := hQ.facts
        refine wpAnyH_ready (rs := [19]) (by kernel_rfl) (by simp) ?_
        refine AllReadyH.cons (o := ⟨_, _, _, _, _, _⟩) rfl (fun KK hKK => ?_) AllReadyH.nil
        go_simp
        refine hKK.out _ _ (HS.out _ hQ.stored) (fun hHeld2 => ?_)
        clear hKK KK hHeld f0 f1 f2 f3 f4 f5 f6 f7 f8 s0 s1 s2 s3 s4 s5 s6 s7 s8
        have hHeld := hHeld2
        clear hHeld2
        try simp only [Act.put, List.setIfInBounds_toArray, List.set_cons_zero, List.set_cons_succ]
        (refine wpAnyH_take (i := 20) (oi := ⟨_, _, _, _, _, _⟩) (v := ?_) rfl (by kernel_rfl) (by kernel_rfl) (by kernel_rfl) (fun _ _ _ h => h) (Or.inl ⟨by rfl, ?_⟩) (by assumption) ?_; rotate_left; focus (intro wS hSw; (first | obtain ⟨e1, e2, e3, e4, e5⟩ := hSw | skip); go_simp; (try with_reducible rfl); done); (try simp only [Act.put, List.setIfInBounds_toArray, List.set_cons_zero, List.set_cons_succ]))
        refine wpAnyH_done (by kernel_rfl) ?_ _
        refine NoPanic.normal ?_
        have HE := Lib.hid (HBW.out _ hQ.stored)
        clear hHeld hQ
        go_wp2_with fail
        go_ret
        exact ⟨rfl, HE.out⟩
       ·go_simp
        have hQ := hQ.exts
        refine hKK.out _ _ (HS.out _ hQ.bel) (fun hHeld2 => ?_)
        clear hKK KK hHeld
        have hHeld := hHeld2
        clear hHeld2
        try simp only [Act.put, List.setIfInBounds_toArray, List.set_cons_zero, List.set_cons_succ]
        obtain ⟨u5, hu⟩ : ∃ z, u4.alloc (.cells #[.bool false, .bool false, .int .i64 0, .int .u16 0, .slice none 0 0, .slice none 0 0, .slice none 0 0, .slice none 0 0, .slice none 0 0] 28) = z := ⟨_, rfl⟩
        rw [hu] at hHeld hQ ⊢
        clear hu
        obtain ⟨r18, hu⟩ : ∃ z, u4.heap.size = z := ⟨_, rfl⟩
        rw [hu] at hQ ⊢
        clear hu
        refine wpAnyH_ready (rs := [14]) (by kernel_rfl) (by simp) ?_
        refine AllReadyH.cons (o := ⟨_, _, _, _, _, _⟩) rfl (fun KK hKK => ?_) AllReadyH.nil
        go_simp
        refine (HGET.out _ _ _ hQ.bel (hQ.row _ _ _ _ rfl)).mono ?_
        rintro e u6 ⟨hb, rfl⟩
        dsimp only
        have hQ := hQ.below hb
        clear hb
        refine hKK.out _ _ (HS.out _ hQ.bel) (fun hHeld2 => ?_)
        clear hKK KK hHeld
        have hHeld := hHeld2
        clear hHeld2
        try simp only [Act.put, List.setIfInBounds_toArray, List.set_cons_zero, List.set_cons_succ]
        (refine wpAnyH_take (i := 15) (oi := ⟨_, _, _, _, _, _⟩) (v := ?_) rfl (by kernel_rfl) (by kernel_rfl) (by kernel_rfl) (fun _ _ _ h => h) (Or.inl ⟨by rfl, ?_⟩) (by assumption) ?_; rotate_left; focus (intro wS hSw; (first | obtain ⟨e1, e2, e3, e4, e5⟩ := hSw | skip); go_simp; (try with_reducible rfl); done); (try simp only [Act.put, List.setIfInBounds_toArray, List.set_cons_zero, List.set_cons_succ]))
        (refine wpAnyH_take (i := 16) (oi := ⟨_, _, _, _, _, _⟩) (v := ?_) rfl (by kernel_rfl) (by kernel_rfl) (by kernel_rfl) (fun _ _ _ h => h) (Or.inl ⟨by rfl, ?_⟩) (by assumption) ?_; rotate_left; focus (intro wS hSw; (first | obtain ⟨e1, e2, e3, e4, e5⟩ := hSw | skip); go_simp; (try with_reducible rfl); done); (try simp only [Act.put, List.setIfInBounds_toArray, List.set_cons_zero, List.set_cons_succ]))
        (refine wpAnyH_take (i := 17) (oi := ⟨_, _, _, _, _, _⟩) (v := ?_) rfl (by kernel_rfl) (by kernel_rfl) (by kernel_rfl) (fun _ _ _ h => h) (Or.inl ⟨by rfl, ?_⟩) (by assumption) ?_; rotate_left; focus (intro wS hSw; (first | obtain ⟨e1, e2, e3, e4, e5⟩ := hSw | skip); go_simp; (try with_reducible rfl); done); (try simp only [Act.put, List.setIfInBounds_toArray, List.set_cons_zero, List.set_cons_succ]))
        obtain ⟨⟨f0, f1, f2, f3, f4, f5, f6, f7, f8⟩, s0, s1, s2, s3, s4, s5, s6, s7, s8⟩ := hQ.facts
        refine wpAnyH_ready (rs := [19]) (by kernel_rfl) (by simp) ?_
        refine AllReadyH.cons (o := ⟨_, _, _, _, _, _⟩) rfl (fun KK hKK => ?_) AllReadyH.nil
        go_simp
        refine hKK.out _ _ (HS.out _ hQ.stored) (fun hHeld2 => ?_)
        clear hKK KK hHeld f0 f1 f2 f3 f4 f5 f6 f7 f8 s0 s1 s2 s3 s4 s5 s6 s7 s8
        have hHeld := hHeld2
        clear hHeld2
        try simp only [Act.put, List.setIfInBounds_toArray, List.set_cons_zero, List.set_cons_succ]
        (refine wpAnyH_take (i := 20) (oi := ⟨_, _, _, _, _, _⟩) (v := ?_) rfl (by kernel_rfl) (by kernel_rfl) (by kernel_rfl) (fun _ _ _ h => h) (Or.inl ⟨by rfl, ?_⟩) (by assumption) ?_; rotate_left; focus (intro wS hSw; (first | obtain ⟨e1, e2, e3, e4, e5⟩ := hSw | skip); go_simp; (try with_reducible rfl); done); (try simp only [Act.put, List.setIfInBounds_toArray, List.set_cons_zero, List.set_cons_succ]))
        refine wpAnyH_done (by kernel_rfl) ?_ _
        refine NoPanic.normal ?_
        have HE := Lib.hid (HBW.out _ hQ.stored)
        clear hHeld hQ
        go_wp2_with fail
        go_ret
        exact ⟨rfl, HE.out⟩
      ·go_simp
       have hQ := hQ.exts
       refine hKK.out _ _ (HS.out _ hQ.bel) (fun hHeld2 => ?_)
       clear hKK KK hHeld
       have hHeld := hHeld2
       clear hHeld2
       try simp only [Act.put, List.setIfInBounds_toArray, List.set_cons_zero, List.set_cons_succ]
       obtain ⟨u4, hu⟩ : ∃ z, u3.alloc (.cells #[.bool false, .bool false, .int .i64 0, .int .u16 0, .slice none 0 0, .slice none 0 0, .slice none 0 0, .slice none 0 0, .slice none 0 0] 28) = z := ⟨_, rfl⟩
       rw [hu] at hHeld hQ ⊢
       clear hu
       obtain ⟨r18, hu⟩ : ∃ z, u3.heap.size = z := ⟨_, rfl⟩
       rw [hu] at hQ ⊢
       clear hu
       refine wpAnyH_ready (rs := [12]) (by kernel_rfl) (by simp) ?_
       refine AllReadyH.cons (o := ⟨_, _, _, _, _, _⟩) rfl (fun KK hKK => ?_) AllReadyH.nil
       obtain ⟨G12, C12, u5, hrun, hQ⟩ := hQ.app12 (HNI.out _ hQ.bel) HWL.out HM.out h2' hm5
       refine step_run rfl (.tmp 73) (.tmp 79) 31 rfl _ _ _ (by first | rfl | simp [Act.eval, Act.put]) (by first | rfl | simp [Act.eval, Act.put]) hrun (hKK.out _ _ (HS.out _ hQ.bel) (fun hHeld2 => ?_))
       clear hrun
       clear hKK KK hHeld
       have hHeld := hHeld2
       clear hHeld2
       try simp only [Act.put, List.setIfInBounds_toArray, List.set_cons_zero, List.set_cons_succ]
       (refine wpAnyH_take (i := 13) (oi := ⟨_, _, _, _, _, _⟩) (v := ?_) rfl (by kernel_rfl) (by kernel_rfl) (by kernel_rfl) (fun _ _ _ h => h) (Or.inl ⟨by rfl, ?_⟩) (by assumption) ?_; rotate_left; focus (intro wS hSw; (first | obtain ⟨e1, e2, e3, e4, e5⟩ := hSw | skip); go_simp; (try with_reducible rfl); done); (try simp only [Act.put, List.setIfInBounds_toArray, List.set_cons_zero, List.set_cons_succ]))
       refine wpAnyH_ready (rs := [14]) (by kernel_rfl) (by simp) ?_
       refine AllReadyH.cons (o := ⟨_, _, _, _, _, _⟩) rfl (fun KK hKK => ?_) AllReadyH.nil
       go_simp
       refine (HGET.out _ _ _ hQ.bel (hQ.row _ _ _ _ rfl)).mono ?_
       rintro e u6 ⟨hb, rfl⟩
       dsimp only
       have hQ := hQ.below hb
       clear hb
       refine hKK.out _ _ (HS.out _ hQ.bel) (fun hHeld2 => ?_)
       clear hKK KK hHeld
       have hHeld := hHeld2
       clear hHeld2
       try simp only [Act.put, List.setIfInBounds_toArray, List.set_cons_zero, List.set_cons_succ]
       (refine wpAnyH_take (i := 15) (oi := ⟨_, _, _, _, _, _⟩) (v := ?_) rfl (by kernel_rfl) (by kernel_rfl) (by kernel_rfl) (fun _ _ _ h => h) (Or.inl ⟨by rfl, ?_⟩) (by assumption) ?_; rotate_left; focus (intro wS hSw; (first | obtain ⟨e1, e2, e3, e4, e5⟩ := hSw | skip); go_simp; (try with_reducible rfl); done); (try simp only [Act.put, List.setIfInBounds_toArray, List.set_cons_zero, List.set_cons_succ]))
       (refine wpAnyH_take (i := 16) (oi := ⟨_, _, _, _, _, _⟩) (v := ?_) rfl (by kernel_rfl) (by kernel_rfl) (by kernel_rfl) (fun _ _ _ h => h) (Or.inl ⟨by rfl, ?_⟩) (by assumption) ?_; rotate_left; focus (intro wS hSw; (first | obtain ⟨e1, e2, e3, e4, e5⟩ := hSw | skip); go_simp; (try with_reducible rfl); done); (try simp only [Act.put, List.setIfInBounds_toArray, List.set_cons_zero, List.set_cons_succ]))
       (refine wpAnyH_take (i := 17) (oi := ⟨_, _, _, _, _, _⟩) (v := ?_) rfl (by kernel_rfl) (by kernel_rfl) (by kernel_rfl) (fun _ _ _ h => h) (Or.inl ⟨by rfl, ?_⟩) (by assumption) ?_; rotate_left; focus (intro wS hSw; (first | obtain ⟨e1, e2, e3, e4, e5⟩ := hSw | skip); go_simp; (try with_reducible rfl); done); (try simp only [Act.put, List.setIfInBounds_toArray, List.set_cons_zero, List.set_cons_succ]))
       obtain ⟨⟨f0, f1, f2, f3, f4, f5, f6, f7, f8⟩, s0, s1, s2, s3, s4, s5, s6, s7, s8⟩ := hQ.facts
       refine wpAnyH_ready (rs := [19]) (by kernel_rfl) (by simp) ?_
       refine AllReadyH.cons (o := ⟨_, _, _, _, _, _⟩) rfl (fun KK hKK => ?_) AllReadyH.nil
       go_simp
       refine hKK.out _ _ (HS.out _ hQ.stored) (fun hHeld2 => ?_)
       clear hKK KK hHeld f0 f1 f2 f3 f4 f5 f6 f7 f8 s0 s1 s2 s3 s4 s5 s6 s7 s8
       have hHeld := hHeld2
       clear hHeld2
       try simp only [Act.put, List.setIfInBounds_toArray, List.set_cons_zero, List.set_cons_succ]
       (refine wpAnyH_take (i := 20) (oi := ⟨_, _, _, _, _, _⟩) (v := ?_) rfl (by kernel_rfl) (by kernel_rfl) (by kernel_rfl) (fun _ _ _ h => h) (Or.inl ⟨by rfl, ?_⟩) (by assumption) ?_; rotate_left; focus (intro wS hSw; (first | obtain ⟨e1, e2, e3, e4, e5⟩ := hSw | skip); go_simp; (try with_reducible rfl); done); (try simp only [Act.put, List.setIfInBounds_toArray, List.set_cons_zero, List.set_cons_succ]))
       refine wpAnyH_done (by kernel_rfl) ?_ _
       refine NoPanic.normal ?_
       have HE := Lib.hid (HBW.out _ hQ.stored)
       clear hHeld hQ
       go_wp2_with fail
       go_ret
       exact ⟨rfl, HE.out⟩
     ·go_simp
      have hQ := hQ.exts
      refine hKK.out _ _ (HS.out _ hQ.bel) (fun hHeld2 => ?_)
      clear hKK KK hHeld
      have hHeld := hHeld2
      clear hHeld2
      try simp only [Act.put, List.setIfInBounds_toArray, List.set_cons_zero, List.set_cons_succ]
      obtain ⟨u3, hu⟩ : ∃ z, u2.alloc (.cells #[.bool false, .bool false, .int .i64 0, .int .u16 0, .slice none 0 0, .slice none 0 0, .slice none 0 0, .slice none 0 0, .slice none 0 0] 28) = z := ⟨_, rfl⟩
      rw [hu] at hHeld hQ ⊢
      clear hu
      obtain ⟨r18, hu⟩ : ∃ z, u2.heap.size = z := ⟨_, rfl⟩
      rw [hu] at hQ ⊢
      clear hu
      refine wpAnyH_ready (rs := [11]) (by kernel_rfl) (by simp) ?_
      refine AllReadyH.cons (o := ⟨_, _, _, _, _, _⟩) rfl (fun KK hKK => ?_) AllReadyH.nil
      go_simp
      have hQ := hQ.node
      refine hKK.out _ _ (HS.out _ hQ.bel) (fun hHeld2 => ?_)
      clear hKK KK hHeld
      have hHeld := hHeld2
      clear hHeld2
      try simp only [Act.put, List.setIfInBounds_toArray, List.set_cons_zero, List.set_cons_succ]
      obtain ⟨u4, hu⟩ : ∃ z, u3.alloc (.cells #[.int .u8 ti, .slice Ai li ii, .slice Ki mi ni] 33) = z := ⟨_, rfl⟩
      rw [hu] at hHeld hQ ⊢
      clear hu
      obtain ⟨b11, hu⟩ : ∃ z, u3.heap.size = z := ⟨_, rfl⟩
      rw [hu] at hQ ⊢
      clear hu
      refine wpAnyH_ready (rs := [12]) (by kernel_rfl) (by simp) ?_
      refine AllReadyH.cons (o := ⟨_, _, _, _, _, _⟩) rfl (fun KK hKK => ?_) AllReadyH.nil
      obtain ⟨G12, C12, u5, hrun, hQ⟩ := hQ.app12 (HNI.out _ hQ.bel) HWL.out HM.out h2' hm5
      refine step_run rfl (.tmp 73) (.tmp 79) 31 rfl _ _ _ (by first | rfl | simp [Act.eval, Act.put]) (by first | rfl | simp [Act.eval, Act.put]) hrun (hKK.out _ _ (HS.out _ hQ.bel) (fun hHeld2 => ?_))
      clear hrun
      clear hKK KK hHeld
      have hHeld := hHeld2
      clear hHeld2
      try simp only [Act.put, List.setIfInBounds_toArray, List.set_cons_zero, List.set_cons_succ]
      (refine wpAnyH_take (i := 13) (oi := ⟨_, _, _, _, _, _⟩) (v := ?_) rfl (by kernel_rfl) (by kernel_rfl) (by kernel_rfl) (fun _ _ _ h => h) (Or.inl ⟨by rfl, ?_⟩) (by assumption) ?_; rotate_left; focus (intro wS hSw; (first | obtain ⟨e1, e2, e3, e4, e5⟩ := hSw | skip); go_simp; (try with_reducible rfl); done); (try simp only [Act.put, List.setIfInBounds_toArray, List.set_cons_zero, List.set_cons_succ]))
      refine wpAnyH_ready (rs := [14]) (by kernel_rfl) (by simp) ?_
      refine AllReadyH.cons (o := ⟨_, _, _, _, _, _⟩) rfl (fun KK hKK => ?_) AllReadyH.nil
      go_simp
      refine (HGET.out _ _ _ hQ.bel (hQ.row _ _ _ _ rfl)).mono ?_
      rintro e u6 ⟨hb, rfl⟩
      dsimp only
      have hQ := hQ.below hb
      clear hb
      refine hKK.out _ _ (HS.out _ hQ.bel) (fun hHeld2 => ?_)
      clear hKK KK hHeld
      have hHeld := hHeld2
      clear hHeld2
      try simp only [Act.put, List.setIfInBounds_toArray, List.set_cons_zero, List.set_cons_succ]
      (refine wpAnyH_take (i := 15) (oi := ⟨_, _, _, _, _, _⟩) (v := ?_) rfl (by kernel_rfl) (by kernel_rfl) (by kernel_rfl) (fun _ _ _ h => h) (Or.inl ⟨by rfl, ?_⟩) (by assumption) ?_; rotate_left; focus (intro wS hSw; (first | obtain ⟨e1, e2, e3, e4, e5⟩ := hSw | skip); go_simp; (try with_reducible rfl); done); (try simp only [Act.put, List.setIfInBounds_toArray, List.set_cons_zero, List.set_cons_succ]))
      (refine wpAnyH_take (i := 16) (oi := ⟨_, _, _, _, _, _⟩) (v := ?_) rfl (by kernel_rfl) (by kernel_rfl) (by kernel_rfl) (fun _ _ _ h => h) (Or.inl ⟨by rfl, ?_⟩) (by assumption) ?_; rotate_left; focus (intro wS hSw; (first | obtain ⟨e1, e2, e3, e4, e5⟩ := hSw | skip); go_simp; (try with_reducible rfl); done); (try simp only [Act.put, List.setIfInBounds_toArray, List.set_cons_zero, List.set_cons_succ]))
      (refine wpAnyH_take (i := 17) (oi := ⟨_, _, _, _, _, _⟩) (v := ?_) rfl (by kernel_rfl) (by kernel_rfl) (by kernel_rfl) (fun _ _ _ h => h) (Or.inl ⟨by rfl, ?_⟩) (by assumption) ?_; rotate_left; focus (intro wS hSw; (first | obtain ⟨e1, e2, e3, e4, e5⟩ := hSw | skip); go_simp; (try with_reducible rfl); done); (try simp only [Act.put, List.setIfInBounds_toArray, List.set_cons_zero, List.set_cons_succ]))
      obtain ⟨⟨f0, f1, f2, f3, f4, f5, f6, f7, f8⟩, s0, s1, s2, s3, s4, s5, s6, s7, s8⟩ := hQ.facts
      refine wpAnyH_ready (rs := [19]) (by kernel_rfl) (by simp) ?_
      refine AllReadyH.cons (o := ⟨_, _, _, _, _, _⟩) rfl (fun KK hKK => ?_) AllReadyH.nil
      go_simp
      refine hKK.out _ _ (HS.out _ hQ.stored) (fun hHeld2 => ?_)
      clear hKK KK hHeld f0 f1 f2 f3 f4 f5 f6 f7 f8 s0 s1 s2 s3 s4 s5 s6 s7 s8
      have hHeld := hHeld2
      clear hHeld2
      try simp only [Act.put, List.setIfInBounds_toArray, List.set_cons_zero, List.set_cons_succ]
      (refine wpAnyH_take (i := 20) (oi := ⟨_, _, _, _, _, _⟩) (v := ?_) rfl (by kernel_rfl) (by kernel_rfl) (by kernel_rfl) (fun _ _ _ h => h) (Or.inl ⟨by rfl, ?_⟩) (by assumption) ?_; rotate_left; focus (intro wS hSw; (first | obtain ⟨e1, e2, e3, e4, e5⟩ := hSw | skip); go_simp; (try with_reducible rfl); done); (try simp only [Act.put, List.setIfInBounds_toArray, List.set_cons_zero, List.set_cons_succ]))
      refine wpAnyH_done (by kernel_rfl) ?_ _
      refine NoPanic.normal ?_
      have HE := Lib.hid (HBW.out _ hQ.stored)
      clear hHeld hQ
      go_wp2_with fail
      go_ret
      exact ⟨rfl, HE.out⟩
    ·go_simp
     have hQ := hQ.node
     refine hKK.out _ _ (HS.out _ hQ.bel) (fun hHeld2 => ?_)
     clear hKK KK hHeld
     have hHeld := hHeld2
     clear hHeld2
     try simp only [Act.put, List.setIfInBounds_toArray, List.set_cons_zero, List.set_cons_succ]
     obtain ⟨u2, hu⟩ : ∃ z, u1.alloc (.cells #[.int .u8 ti, .slice Ai li ii, .slice Ki mi ni] 33) = z := ⟨_, rfl⟩
     rw [hu] at hHeld hQ ⊢
     clear hu
     obtain ⟨b11, hu⟩ : ∃ z, u1.heap.size = z := ⟨_, rfl⟩
     rw [hu] at hQ ⊢
     clear hu
     refine wpAnyH_ready (rs := [5, 18]) (by kernel_rfl) (by simp) ?_
     refine AllReadyH.cons (o := ⟨_, _, _, _, _, _⟩) rfl (fun KK hKK => ?_) (AllReadyH.cons (o := ⟨_, _, _, _, _, _⟩) rfl (fun KK hKK => ?_) AllReadyH.nil)
     ·obtain ⟨G5, C5, u3, hrun, hQ⟩ := hQ.app5 (c1 := c1) (HL.out _ hQ.bel) HWL.out HM.out h2' hm5
      refine step_run rfl (.tmp 70) (.tmp 72) 31 rfl _ _ _ (by first | rfl | simp [Act.eval, Act.put]) (by first | rfl | simp [Act.eval, Act.put]) hrun (hKK.out _ _ (HS.out _ hQ.bel) (fun hHeld2 => ?_))
      clear hrun
      clear hKK KK hHeld
      have hHeld := hHeld2
      clear hHeld2
      try simp only [Act.put, List.setIfInBounds_toArray, List.set_cons_zero, List.set_cons_succ]
      refine wpAnyH_ready (rs := [12, 18]) (by kernel_rfl) (by simp) ?_
      refine AllReadyH.cons (o := ⟨_, _, _, _, _, _⟩) rfl (fun KK hKK => ?_) (AllReadyH.cons (o := ⟨_, _, _, _, _, _⟩) rfl (fun KK hKK => ?_) AllReadyH.nil)
      ·obtain ⟨G12, C12, u4, hrun, hQ⟩ := hQ.app12 (HNI.out _ hQ.bel) HWL.out HM.out h2' hm5
       refine step_run rfl (.tmp 73) (.tmp 79) 31 rfl _ _ _ (by first | rfl | simp [Act.eval, Act.put]) (by first | rfl | simp [Act.eval, Act.put]) hrun (hKK.out _ _ (HS.out _ hQ.bel) (fun hHeld2 => ?_))
       clear hrun
       clear hKK KK hHeld
       have hHeld := hHeld2
       clear hHeld2
       try simp only [Act.put, List.setIfInBounds_toArray, List.set_cons_zero, List.set_cons_succ]
       (refine wpAnyH_take (i := 13) (oi := ⟨_, _, _, _, _, _⟩) (v := ?_) rfl (by kernel_rfl) (by kernel_rfl) (by kernel_rfl) (fun _ _ _ h => h) (Or.inl ⟨by rfl, ?_⟩) (by assumption) ?_; rotate_left; focus (intro wS hSw; (first | obtain ⟨e1, e2, e3, e4, e5⟩ := hSw | skip); go_simp; (try with_reducible rfl); done); (try simp only [Act.put, List.setIfInBounds_toArray, List.set_cons_zero, List.set_cons_succ]))
       refine wpAnyH_ready (rs := [14, 18]) (by kernel_rfl) (by simp) ?_
       refine AllReadyH.cons (o := ⟨_, _, _, _, _, _⟩) rfl (fun KK hKK => ?_) (AllReadyH.cons (o := ⟨_, _, _, _, _, _⟩) rfl (fun KK hKK => ?_) AllReadyH.nil)
       ·go_simp
        refine (HGET.out _ _ _ hQ.bel (hQ.row _ _ _ _ rfl)).mono ?_
        rintro e u5 ⟨hb, rfl⟩
        dsimp only
        have hQ := hQ.below hb
        clear hb
        refine hKK.out _ _ (HS.out _ hQ.bel) (fun hHeld2 => ?_)
        clear hKK KK hHeld
        have hHeld := hHeld2
        clear hHeld2
        try simp only [Act.put, List.setIfInBounds_toArray, List.set_cons_zero, List.set_cons_succ]
        (refine wpAnyH_take (i := 15) (oi := ⟨_, _, _, _, _, _⟩) (v := ?_) rfl (by kernel_rfl) (by kernel_rfl) (by kernel_rfl) (fun _ _ _ h => h) (Or.inl ⟨by rfl, ?_⟩) (by assumption) ?_; rotate_left; focus (intro wS hSw; (first | obtain ⟨e1, e2, e3, e4, e5⟩ := hSw | skip); go_simp; (try with_reducible rfl); done); (try simp only [Act.put, List.setIfInBounds_toArray, List.set_cons_zero, List.set_cons_succ]))
        (refine wpAnyH_take (i := 16) (oi := ⟨_, _, _, _, _, _⟩) (v := ?_) rfl (by kernel_rfl) (by kernel_rfl) (by kernel_rfl) (fun _ _ _ h => h) (Or.inl ⟨by rfl, ?_⟩) (by assumption) ?_; rotate_left; focus (intro wS hSw; (first | obtain ⟨e1, e2, e3, e4, e5⟩ := hSw | skip); go_simp; (try with_reducible rfl); done); (try simp only [Act.put, List.setIfInBounds_toArray, List.set_cons_zero, List.set_cons_succ]))
        (refine wpAnyH_take (i := 17) (oi := ⟨_, _, _, _, _, _⟩) (v := ?_) rfl (by kernel_rfl) (by kernel_rfl) (by kernel_rfl) (fun _ _ _ h => h) (Or.inl ⟨by rfl, ?_⟩) (by assumption) ?_; rotate_left; focus (intro wS hSw; (first | obtain ⟨e1, e2, e3, e4, e5⟩ := hSw | skip); go_simp; (try with_reducible rfl); done); (try simp only [Act.put, List.setIfInBounds_toArray, List.set_cons_zero, List.set_cons_succ]))
        refine wpAnyH_ready (rs := [18]) (by kernel_rfl) (by simp) ?_
        refine AllReadyH.cons (o := ⟨_, _, _, _, _, _⟩) rfl (fun KK hKK => ?_) AllReadyH.nil
        go_simp
        have hQ := hQ.exts
        refine hKK.out _ _ (HS.out _ hQ.bel) (fun hHeld2 => ?_)
        clear hKK KK hHeld
        have hHeld := hHeld2
        clear hHeld2
        try simp only [Act.put, List.setIfInBounds_toArray, List.set_cons_zero, List.set_cons_succ]
        obtain ⟨u6, hu⟩ : ∃ z, u5.alloc (.cells #[.bool false, .bool false, .int .i64 0, .int .u16 0, .slice none 0 0, .slice none 0 0, .slice none 0 0, .slice none 0 0, .slice none 0 0] 28) = z := ⟨_, rfl⟩
        rw [hu] at hHeld hQ ⊢
        clear hu
        obtain ⟨r18, hu⟩ : ∃ z, u5.heap.size = z := ⟨_, rfl⟩
        rw [hu] at hQ ⊢
        clear hu
        obtain ⟨⟨f0, f1, f2, f3, f4, f5, f6, f7, f8⟩, s0, s1, s2, s3, s4, s5, s6, s7, s8⟩ := hQ.facts
        refine wpAnyH_ready (rs := [19]) (by kernel_rfl) (by simp) ?_
        refine AllReadyH.cons (o := ⟨_, _, _, _, _, _⟩) rfl (fun KK hKK => ?_) AllReadyH.nil
        go_simp
        refine hKK.out _ _ (HS.out _ hQ.stored) (fun hHeld2 => ?_)
        clear hKK KK hHeld f0 f1 f2 f3 f4 f5 f6 f7 f8 s0 s1 s2 s3 s4 s5 s6 s7 s8
        have hHeld := hHeld2
        clear hHeld2
        try simp only [Act.put, List.setIfInBounds_toArray, List.set_cons_zero, List.set_cons_succ]
        (refine wpAnyH_take (i := 20) (oi := ⟨_, _, _, _, _, _⟩) (v := ?_) rfl (by kernel_rfl) (by kernel_rfl) (by kernel_rfl) (fun _ _ _ h => h) (Or.inl ⟨by rfl, ?_⟩) (by assumption) ?_; rotate_left; focus (intro wS hSw; (first | obtain ⟨e1, e2, e3, e4, e5⟩ := hSw | skip); go_simp; (try with_reducible rfl); done); (try simp only [Act.put, List.setIfInBounds_toArray, List.set_cons_zero, List.set_cons_succ]))
        refine wpAnyH_done (by kernel_rfl) ?_ _
        refine NoPanic.normal ?_
        have HE := Lib.hid (HBW.out _ hQ.stored)
        clear hHeld hQ
        go_wp2_with fail
        go_ret
        exact ⟨rfl, HE.out⟩
       ·go_simp
        have hQ := hQ.exts
        refine hKK.out _ _ (HS.out _ hQ.bel) (fun hHeld2 => ?_)
        clear hKK KK hHeld
        have hHeld := hHeld2
        clear hHeld2
        try simp only [Act.put, List.setIfInBounds_toArray, List.set_cons_zero, List.set_cons_succ]
        obtain ⟨u5, hu⟩ : ∃ z, u4.alloc (.cells #[.bool false, .bool false, .int .i64 0, .int .u16 0, .slice none 0 0, .slice none 0 0, .slice none 0 0, .slice none 0 0, .slice none 0 0] 28) = z := ⟨_, rfl⟩
        rw [hu] at hHeld hQ ⊢
        clear hu
        obtain ⟨r18, hu⟩ : ∃ z, u4.heap.size = z := ⟨_, rfl⟩
        rw [hu] at hQ ⊢
        clear hu
        refine wpAnyH_ready (rs := [14]) (by kernel_rfl) (by simp) ?_
        refine AllReadyH.cons (o := ⟨_, _, _, _, _, _⟩) rfl (fun KK hKK => ?_) AllReadyH.nil
        go_simp
        refine (HGET.out _ _ _ hQ.bel (hQ.row _ _ _ _ rfl)).mono ?_
        rintro e u6 ⟨hb, rfl⟩
        dsimp only
        have hQ := hQ.below hb
        clear hb
        refine hKK.out _ _ (HS.out _ hQ.bel) (fun hHeld2 => ?_)
        clear hKK KK hHeld
        have hHeld := hHeld2
        clear hHeld2
        try simp only [Act.put, List.setIfInBounds_toArray, List.set_cons_zero, List.set_cons_succ]
        (refine wpAnyH_take (i := 15) (oi := ⟨_, _, _, _, _, _⟩) (v := ?_) rfl (by kernel_rfl) (by kernel_rfl) (by kernel_rfl) (fun _ _ _ h => h) (Or.inl ⟨by rfl, ?_⟩) (by assumption) ?_; rotate_left; focus (intro wS hSw; (first | obtain ⟨e1, e2, e3, e4, e5⟩ := hSw | skip); go_simp; (try with_reducible rfl); done); (try simp only [Act.put, List.setIfInBounds_toArray, List.set_cons_zero, List.set_cons_succ]))
        (refine wpAnyH_take (i := 16) (oi := ⟨_, _, _, _, _, _⟩) (v := ?_) rfl (by kernel_rfl) (by kernel_rfl) (by kernel_rfl) (fun _ _ _ h => h) (Or.inl ⟨by rfl, ?_⟩) (by assumption) ?_; rotate_left; focus (intro wS hSw; (first | obtain ⟨e1, e2, e3, e4, e5⟩ := hSw | skip); go_simp; (try with_reducible rfl); done); (try simp only [Act.put, List.setIfInBounds_toArray, List.set_cons_zero, List.set_cons_succ]))
        (refine wpAnyH_take (i := 17) (oi := ⟨_, _, _, _, _, _⟩) (v := ?_) rfl (by kernel_rfl) (by kernel_rfl) (by kernel_rfl) (fun _ _ _ h => h) (Or.inl ⟨by rfl, ?_⟩) (by assumption) ?_; rotate_left; focus (intro wS hSw; (first | obtain ⟨e1, e2, e3, e4, e5⟩ := hSw | skip); go_simp; (try with_reducible rfl); done); (try simp only [Act.put, List.setIfInBounds_toArray, List.set_cons_zero, List.set_cons_succ]))
        obtain ⟨⟨f0, f1, f2, f3, f4, f5, f6, f7, f8⟩, s0, s1, s2, s3, s4, s5, s6, s7, s8⟩ := hQ.facts
        refine wpAnyH_ready (rs := [19]) (by kernel_rfl) (by simp) ?_
        refine AllReadyH.cons (o := ⟨_, _, _, _, _, _⟩) rfl (fun KK hKK => ?_) AllReadyH.nil
        go_simp
        refine hKK.out _ _ (HS.out _ hQ.stored) (fun hHeld2 => ?_)
        clear hKK KK hHeld f0 f1 f2 f3 f4 f5 f6 f7 f8 s0 s1 s2 s3 s4 s5 s6 s7 s8
        have hHeld := hHeld2
        clear hHeld2
        try simp only [Act.put, List.setIfInBounds_toArray, List.set_cons_zero, List.set_cons_succ]
        (refine wpAnyH_take (i := 20) (oi := ⟨_, _, _, _, _, _⟩) (v := ?_) rfl (by kernel_rfl) (by kernel_rfl) (by kernel_rfl) (fun _ _ _ h => h) (Or.inl ⟨by rfl, ?_⟩) (by assumption) ?_; rotate_left; focus (intro wS hSw; (first | obtain ⟨e1, e2, e3, e4, e5⟩ := hSw | skip); go_simp; (try with_reducible rfl); done); (try simp only [Act.put, List.setIfInBounds_toArray, List.set_cons_zero, List.set_cons_succ]))
        refine wpAnyH_done (by kernel_rfl) ?_ _
        refine NoPanic.normal ?_
        have HE := Lib.hid (HBW.out _ hQ.stored)
        clear hHeld hQ
        go_wp2_with fail
        go_ret
        exact ⟨rfl, HE.out⟩
      ·go_simp
       have hQ := hQ.exts
       refine hKK.out _ _ (HS.out _ hQ.bel) (fun hHeld2 => ?_)
       clear hKK KK hHeld
       have hHeld := hHeld2
       clear hHeld2
       try simp only [Act.put, List.setIfInBounds_toArray, List.set_cons_zero, List.set_cons_succ]
       obtain ⟨u4, hu⟩ : ∃ z, u3.alloc (.cells #[.bool false, .bool false, .int .i64 0, .int .u16 0, .slice none 0 0, .slice none 0 0, .slice none 0 0, .slice none 0 0, .slice none 0 0] 28) = z := ⟨_, rfl⟩
       rw [hu] at hHeld hQ ⊢
       clear hu
       obtain ⟨r18, hu⟩ : ∃ z, u3.heap.size = z := ⟨_, rfl⟩
       rw [hu] at hQ ⊢
       clear hu
       refine wpAnyH_ready (rs := [12]) (by kernel_rfl) (by simp) ?_
       refine AllReadyH.cons (o := ⟨_, _, _, _, _, _⟩) rfl (fun KK hKK => ?_) AllReadyH.nil
       obtain ⟨G12, C12, u5, hrun, hQ⟩ := hQ.app12 (HNI.out _ hQ.bel) HWL.out HM.out h2' hm5
       refine step_run rfl (.tmp 73) (.tmp 79) 31 rfl _ _ _ (by first | rfl | simp [Act.eval, Act.put]) (by first | rfl | simp [Act.eval, Act.put]) hrun (hKK.out _ _ (HS.out _ hQ.bel) (fun hHeld2 => ?_))
       clear hrun
       clear hKK KK hHeld
       have hHeld := hHeld2
       clear hHeld2
       try simp only [Act.put, List.setIfInBounds_toArray, List.set_cons_zero, List.set_cons_succ]
       (refine wpAnyH_take (i := 13) (oi := ⟨_, _, _, _, _, _⟩) (v := ?_) rfl (by kernel_rfl) (by kernel_rfl) (by kernel_rfl) (fun _ _ _ h => h) (Or.inl ⟨by rfl, ?_⟩) (by assumption) ?_; rotate_left; focus (intro wS hSw; (first | obtain ⟨e1, e2, e3, e4, e5⟩ := hSw | skip); go_simp; (try with_reducible rfl); done); (try simp only [Act.put, List.setIfInBounds_toArray, List.set_cons_zero, List.set_cons_succ]))
       refine wpAnyH_ready (rs := [14]) (by kernel_rfl) (by simp) ?_
       refine AllReadyH.cons (o := ⟨_, _, _, _, _, _⟩) rfl (fun KK hKK => ?_) AllReadyH.nil
       go_simp
       refine (HGET.out _ _ _ hQ.bel (hQ.row _ _ _ _ rfl)).mono ?_
       rintro e u6 ⟨hb, rfl⟩
       dsimp only
       have hQ := hQ.below hb
       clear hb
       refine hKK.out _ _ (HS.out _ hQ.bel) (fun hHeld2 => ?_)
       clear hKK KK hHeld
       have hHeld := hHeld2
       clear hHeld2
       try simp only [Act.put, List.setIfInBounds_toArray, List.set_cons_zero, List.set_cons_succ]
       (refine wpAnyH_take (i := 15) (oi := ⟨_, _, _, _, _, _⟩) (v := ?_) rfl (by kernel_rfl) (by kernel_rfl) (by kernel_rfl) (fun _ _ _ h => h) (Or.inl ⟨by rfl, ?_⟩) (by assumption) ?_; rotate_left; focus (intro wS hSw; (first | obtain ⟨e1, e2, e3, e4, e5⟩ := hSw | skip); go_simp; (try with_reducible rfl); done); (try simp only [Act.put, List.setIfInBounds_toArray, List.set_cons_zero, List.set_cons_succ]))
       (refine wpAnyH_take (i := 16) (oi := ⟨_, _, _, _, _, _⟩) (v := ?_) rfl (by kernel_rfl) (by kernel_rfl) (by kernel_rfl) (fun _ _ _ h => h) (Or.inl ⟨by rfl, ?_⟩) (by assumption) ?_; rotate_left; focus (intro wS hSw; (first | obtain ⟨e1, e2, e3, e4, e5⟩ := hSw | skip); go_simp; (try with_reducible rfl); done); (try simp only [Act.put, List.setIfInBounds_toArray, List.set_cons_zero, List.set_cons_succ]))
       (refine wpAnyH_take (i := 17) (oi := ⟨_, _, _, _, _, _⟩) (v := ?_) rfl (by kernel_rfl) (by kernel_rfl) (by kernel_rfl) (fun _ _ _ h => h) (Or.inl ⟨by rfl, ?_⟩) (by assumption) ?_; rotate_left; focus (intro wS hSw; (first | obtain ⟨e1, e2, e3, e4, e5⟩ := hSw | skip); go_simp; (try with_reducible rfl); done); (try simp only [Act.put, List.setIfInBounds_toArray, List.set_cons_zero, List.set_cons_succ]))
       obtain ⟨⟨f0, f1, f2, f3, f4, f5, f6, f7, f8⟩, s0, s1, s2, s3, s4, s5, s6, s7, s8⟩ := hQ.facts
       refine wpAnyH_ready (rs := [19]) (by kernel_rfl) (by simp) ?_
       refine AllReadyH.cons (o := ⟨_, _, _, _, _, _⟩) rfl (fun KK hKK => ?_) AllReadyH.nil
       go_simp
       refine hKK.out _ _ (HS.out _ hQ.stored) (fun hHeld2 => ?_)
       clear hKK KK hHeld f0 f1 f2 f3 f4 f5 f6 f7 f8 s0 s1 s2 s3 s4 s5 s6 s7 s8
       have hHeld := hHeld2
       clear hHeld2
       try simp only [Act.put, List.setIfInBounds_toArray, List.set_cons_zero, List.set_cons_succ]
       (refine wpAnyH_take (i := 20) (oi := ⟨_, _, _, _, _, _⟩) (v := ?_) rfl (by kernel_rfl) (by kernel_rfl) (by kernel_rfl) (fun _ _ _ h => h) (Or.inl ⟨by rfl, ?_⟩) (by assumption) ?_; rotate_left; focus (intro wS hSw; (first | obtain ⟨e1, e2, e3, e4, e5⟩ := hSw | skip); go_simp; (try with_reducible rfl); done); (try simp only [Act.put, List.setIfInBounds_toArray, List.set_cons_zero, List.set_cons_succ]))
       refine wpAnyH_done (by kernel_rfl) ?_ _
       refine NoPanic.normal ?_
       have HE := Lib.hid (HBW.out _ hQ.stored)
       clear hHeld hQ
       go_wp2_with fail
       go_ret
       exact ⟨rfl, HE.out⟩
     ·go_simp
      have hQ := hQ.exts
      refine hKK.out _ _ (HS.out _ hQ.bel) (fun hHeld2 => ?_)
      clear hKK KK hHeld
      have hHeld := hHeld2
      clear hHeld2
      try simp only [Act.put, List.setIfInBounds_toArray, List.set_cons_zero, List.set_cons_succ]
      obtain ⟨u3, hu⟩ : ∃ z, u2.alloc (.cells #[.bool false, .bool false, .int .i64 0, .int .u16 0, .slice none 0 0, .slice none 0 0, .slice none 0 0, .slice none 0 0, .slice none 0 0] 28) = z := ⟨_, rfl⟩
      rw [hu] at hHeld hQ ⊢
      clear hu
      obtain ⟨r18, hu⟩ : ∃ z, u2.heap.size = z := ⟨_, rfl⟩
      rw [hu] at hQ ⊢
      clear hu
      refine wpAnyH_ready (rs := [5]) (by kernel_rfl) (by simp) ?_
      refine AllReadyH.cons (o := ⟨_, _, _, _, _, _⟩) rfl (fun KK hKK => ?_) AllReadyH.nil
      obtain ⟨G5, C5, u4, hrun, hQ⟩ := hQ.app5 (c1 := c1) (HL.out _ hQ.bel) HWL.out HM.out h2' hm5
      refine step_run rfl (.tmp 70) (.tmp 72) 31 rfl _ _ _ (by first | rfl | simp [Act.eval, Act.put]) (by first | rfl | simp [Act.eval, Act.put]) hrun (hKK.out _ _ (HS.out _ hQ.bel) (fun hHeld2 => ?_))
      clear hrun
      clear hKK KK hHeld
      have hHeld := hHeld2
      clear hHeld2
      try simp only [Act.put, List.setIfInBounds_toArray, List.set_cons_zero, List.set_cons_succ]
      refine wpAnyH_ready (rs := [12]) (by kernel_rfl) (by simp) ?_
      refine AllReadyH.cons (o := ⟨_, _, _, _, _, _⟩) rfl (fun KK hKK => ?_) AllReadyH.nil
      obtain ⟨G12, C12, u5, hrun, hQ⟩ := hQ.app12 (HNI.out _ hQ.bel) HWL.out HM.out h2' hm5
      refine step_run rfl (.tmp 73) (.tmp 79) 31 rfl _ _ _ (by first | rfl | simp [Act.eval, Act.put]) (by first | rfl | simp [Act.eval, Act.put]) hrun (hKK.out _ _ (HS.out _ hQ.bel) (fun hHeld2 => ?_))
      clear hrun
      clear hKK KK hHeld
      have hHeld := hHeld2
      clear hHeld2
      try simp only [Act.put, List.setIfInBounds_toArray, List.set_cons_zero, List.set_cons_succ]
      (refine wpAnyH_take (i := 13) (oi := ⟨_, _, _, _, _, _⟩) (v := ?_) rfl (by kernel_rfl) (by kernel_rfl) (by kernel_rfl) (fun _ _ _ h => h) (Or.inl ⟨by rfl, ?_⟩) (by assumption) ?_; rotate_left; focus (intro wS hSw; (first | obtain ⟨e1, e2, e3, e4, e5⟩ := hSw | skip); go_simp; (try with_reducible rfl); done); (try simp only [Act.put, List.setIfInBounds_toArray, List.set_cons_zero, List.set_cons_succ]))
      refine wpAnyH_ready (rs := [14]) (by kernel_rfl) (by simp) ?_
      refine AllReadyH.cons (o := ⟨_, _, _, _, _, _⟩) rfl (fun KK hKK => ?_) AllReadyH.nil
      go_simp
      refine (HGET.out _ _ _ hQ.bel (hQ.row _ _ _ _ rfl)).mono ?_
      rintro e u6 ⟨hb, rfl⟩
      dsimp only
      have hQ := hQ.below hb
      clear hb
      refine hKK.out _ _ (HS.out _ hQ.bel) (fun hHeld2 => ?_)
      clear hKK KK hHeld
      have hHeld := hHeld2
      clear hHeld2
      try simp only [Act.put, List.setIfInBounds_toArray, List.set_cons_zero, List.set_cons_succ]
      (refine wpAnyH_take (i := 15) (oi := ⟨_, _, _, _, _, _⟩) (v := ?_) rfl (by kernel_rfl) (by kernel_rfl) (by kernel_rfl) (fun _ _ _ h => h) (Or.inl ⟨by rfl, ?_⟩) (by assumption) ?_; rotate_left; focus (intro wS hSw; (first | obtain ⟨e1, e2, e3, e4, e5⟩ := hSw | skip); go_simp; (try with_reducible rfl); done); (try simp only [Act.put, List.setIfInBounds_toArray, List.set_cons_zero, List.set_cons_succ]))
      (refine wpAnyH_take (i := 16) (oi := ⟨_, _, _, _, _, _⟩) (v := ?_) rfl (by kernel_rfl) (by kernel_rfl) (by kernel_rfl) (fun _ _ _ h => h) (Or.inl ⟨by rfl, ?_⟩) (by assumption) ?_; rotate_left; focus (intro wS hSw; (first | obtain ⟨e1, e2, e3, e4, e5⟩ := hSw | skip); go_simp; (try with_reducible rfl); done); (try simp only [Act.put, List.setIfInBounds_toArray, List.set_cons_zero, List.set_cons_succ]))
      (refine wpAnyH_take (i := 17) (oi := ⟨_, _, _, _, _, _⟩) (v := ?_) rfl (by kernel_rfl) (by kernel_rfl) (by kernel_rfl) (fun _ _ _ h => h) (Or.inl ⟨by rfl, ?_⟩) (by assumption) ?_; rotate_left; focus (intro wS hSw; (first | obtain ⟨e1, e2, e3, e4, e5⟩ := hSw | skip); go_simp; (try with_reducible rfl); done); (try simp only [Act.put, List.setIfInBounds_toArray, List.set_cons_zero, List.set_cons_succ]))
      obtain ⟨⟨f0, f1, f2, f3, f4, f5, f6, f7, f8⟩, s0, s1, s2, s3, s4, s5, s6, s7, s8⟩ := hQ.facts
      refine wpAnyH_ready (rs := [19]) (by kernel_rfl) (by simp) ?_
      refine AllReadyH.cons (o := ⟨_, _, _, _, _, _⟩) rfl (fun KK hKK => ?_) AllReadyH.nil
      go_simp
      refine hKK.out _ _ (HS.out _ hQ.stored) (fun hHeld2 => ?_)
      clear hKK KK hHeld f0 f1 f2 f3 f4 f5 f6 f7 f8 s0 s1 s2 s3 s4 s5 s6 s7 s8
      have hHeld := hHeld2
      clear hHeld2
      try simp only [Act.put, List.setIfInBounds_toArray, List.set_cons_zero, List.set_cons_succ]
      (refine wpAnyH_take (i := 20) (oi := ⟨_, _, _, _, _, _⟩) (v := ?_) rfl (by kernel_rfl) (by kernel_rfl) (by kernel_rfl) (fun _ _ _ h => h) (Or.inl ⟨by rfl, ?_⟩) (by assumption) ?_; rotate_left; focus (intro wS hSw; (first | obtain ⟨e1, e2, e3, e4, e5⟩ := hSw | skip); go_simp; (try with_reducible rfl); done); (try simp only [Act.put, List.setIfInBounds_toArray, List.set_cons_zero, List.set_cons_succ]))
      refine wpAnyH_done (by kernel_rfl) ?_ _
      refine NoPanic.normal ?_
      have HE := Lib.hid (HBW.out _ hQ.stored)
      clear hHeld hQ
      go_wp2_with fail
      go_ret
      exact ⟨rfl, HE.out⟩
    ·go_simp
     have hQ := hQ.exts
     refine hKK.out _ _ (HS.out _ hQ.bel) (fun hHeld2 => ?_)
     clear hKK KK hHeld
     have hHeld := hHeld2
     clear hHeld2
     try simp only [Act.put, List.setIfInBounds_toArray, List.set_cons_zero, List.set_cons_succ]
     obtain ⟨u2, hu⟩ : ∃ z, u1.alloc (.cells #[.bool false, .bool false, .int .i64 0, .int .u16 0, .slice none 0 0, .slice none 0 0, .slice none 0 0, .slice none 0 0, .slice none 0 0] 28) = z := ⟨_, rfl⟩
     rw [hu] at hHeld hQ ⊢
     clear hu
     obtain ⟨r18, hu⟩ : ∃ z, u1.heap.size = z := ⟨_, rfl⟩
     rw [hu] at hQ ⊢
     clear hu
     refine wpAnyH_ready (rs := [5, 11]) (by kernel_rfl) (by simp) ?_
     refine AllReadyH.cons (o := ⟨_, _, _, _, _, _⟩) rfl (fun KK hKK => ?_) (AllReadyH.cons (o := ⟨_, _, _, _, _, _⟩) rfl (fun KK hKK => ?_) AllReadyH.nil)
     ·obtain ⟨G5, C5, u3, hrun, hQ⟩ := hQ.app5 (c1 := c1) (HL.out _ hQ.bel) HWL.out HM.out h2' hm5
      refine step_run rfl (.tmp 70) (.tmp 72) 31 rfl _ _ _ (by first | rfl | simp [Act.eval, Act.put]) (by first | rfl | simp [Act.eval, Act.put]) hrun (hKK.out _ _ (HS.out _ hQ.bel) (fun hHeld2 => ?_))
      clear hrun
      clear hKK KK hHeld
      have hHeld := hHeld2
      clear hHeld2
      try simp only [Act.put, List.setIfInBounds_toArray, List.set_cons_zero, List.set_cons_succ]
      refine wpAnyH_ready (rs := [11]) (by kernel_rfl) (by simp) ?_
      refine AllReadyH.cons (o := ⟨_, _, _, _, _, _⟩) rfl (fun KK hKK => ?_) AllReadyH.nil
      go_simp
      have hQ := hQ.node
      refine hKK.out _ _ (HS.out _ hQ.bel) (fun hHeld2 => ?_)
      clear hKK KK hHeld
      have hHeld := hHeld2
      clear hHeld2
      try simp only [Act.put, List.setIfInBounds_toArray, List.set_cons_zero, List.set_cons_succ]
      obtain ⟨u4, hu⟩ : ∃ z, u3.alloc (.cells #[.int .u8 ti, .slice Ai li ii, .slice Ki mi ni] 33) = z := ⟨_, rfl⟩
      rw [hu] at hHeld hQ ⊢
      clear hu
      obtain ⟨b11, hu⟩ : ∃ z, u3.heap.size = z := ⟨_, rfl⟩
      rw [hu] at hQ ⊢
      clear hu
      refine wpAnyH_ready (rs := [12]) (by kernel_rfl) (by simp) ?_
      refine AllReadyH.cons (o := ⟨_, _, _, _, _, _⟩) rfl (fun KK hKK => ?_) AllReadyH.nil
      obtain ⟨G12, C12, u5, hrun, hQ⟩ := hQ.app12 (HNI.out _ hQ.bel) HWL.out HM.out h2' hm5
      refine step_run rfl (.tmp 73) (.tmp 79) 31 rfl _ _ _ (by first | rfl | simp [Act.eval, Act.put]) (by first | rfl | simp [Act.eval, Act.put]) hrun (hKK.out _ _ (HS.out _ hQ.bel) (fun hHeld2 => ?_))
      clear hrun
      clear hKK KK hHeld
      have hHeld := hHeld2
      clear hHeld2
      try simp only [Act.put, List.setIfInBounds_toArray, List.set_cons_zero, List.set_cons_succ]
      (refine wpAnyH_take (i := 13) (oi := ⟨_, _, _, _, _, _⟩) (v := ?_) rfl (by kernel_rfl) (by kernel_rfl) (by kernel_rfl) (fun _ _ _ h => h) (Or.inl ⟨by rfl, ?_⟩) (by assumption) ?_; rotate_left; focus (intro wS hSw; (first | obtain ⟨e1, e2, e3, e4, e5⟩ := hSw | skip); go_simp; (try with_reducible rfl); done); (try simp only [Act.put, List.setIfInBounds_toArray, List.set_cons_zero, List.set_cons_succ]))
      refine wpAnyH_ready (rs := [14]) (by kernel_rfl) (by simp) ?_
      refine AllReadyH.cons (o := ⟨_, _, _, _, _, _⟩) rfl (fun KK hKK => ?_) AllReadyH.nil
      go_simp
      refine (HGET.out _ _ _ hQ.bel (hQ.row _ _ _ _ rfl)).mono ?_
      rintro e u6 ⟨hb, rfl⟩
      dsimp only
      have hQ := hQ.below hb
      clear hb
      refine hKK.out _ _ (HS.out _ hQ.bel) (fun hHeld2 => ?_)
      clear hKK KK hHeld
      have hHeld := hHeld2
      clear hHeld2
      try simp only [Act.put, List.setIfInBounds_toArray, List.set_cons_zero, List.set_cons_succ]
      (refine wpAnyH_take (i := 15) (oi := ⟨_, _, _, _, _, _⟩) (v := ?_) rfl (by kernel_rfl) (by kernel_rfl) (by kernel_rfl) (fun _ _ _ h => h) (Or.inl ⟨by rfl, ?_⟩) (by assumption) ?_; rotate_left; focus (intro wS hSw; (first | obtain ⟨e1, e2, e3, e4, e5⟩ := hSw | skip); go_simp; (try with_reducible rfl); done); (try simp only [Act.put, List.setIfInBounds_toArray, List.set_cons_zero, List.set_cons_succ]))
      (refine wpAnyH_take (i := 16) (oi := ⟨_, _, _, _, _, _⟩) (v := ?_) rfl (by kernel_rfl) (by kernel_rfl) (by kernel_rfl) (fun _ _ _ h => h) (Or.inl ⟨by rfl, ?_⟩) (by assumption) ?_; rotate_left; focus (intro wS hSw; (first | obtain ⟨e1, e2, e3, e4, e5⟩ := hSw | skip); go_simp; (try with_reducible rfl); done); (try simp only [Act.put, List.setIfInBounds_toArray, List.set_cons_zero, List.set_cons_succ]))
      (refine wpAnyH_take (i := 17) (oi := ⟨_, _, _, _, _, _⟩) (v := ?_) rfl (by kernel_rfl) (by kernel_rfl) (by kernel_rfl) (fun _ _ _ h => h) (Or.inl ⟨by rfl, ?_⟩) (by assumption) ?_; rotate_left; focus (intro wS hSw; (first | obtain ⟨e1, e2, e3, e4, e5⟩ := hSw | skip); go_simp; (try with_reducible rfl); done); (try simp only [Act.put, List.setIfInBounds_toArray, List.set_cons_zero, List.set_cons_succ]))
      obtain ⟨⟨f0, f1, f2, f3, f4, f5, f6, f7, f8⟩, s0, s1, s2, s3, s4, s5, s6, s7, s8⟩ := hQ.facts
      refine wpAnyH_ready (rs := [19]) (by kernel_rfl) (by simp) ?_
      refine AllReadyH.cons (o := ⟨_, _, _, _, _, _⟩) rfl (fun KK hKK => ?_) AllReadyH.nil
      go_simp
      refine hKK.out _ _ (HS.out _ hQ.stored) (fun hHeld2 => ?_)
      clear hKK KK hHeld f0 f1 f2 f3 f4 f5 f6 f7 f8 s0 s1 s2 s3 s4 s5 s6 s7 s8
      have hHeld := hHeld2
      clear hHeld2
      try simp only [Act.put, List.setIfInBounds_toArray, List.set_cons_zero, List.set_cons_succ]
      (refine wpAnyH_take (i := 20) (oi := ⟨_, _, _, _, _, _⟩) (v := ?_) rfl (by kernel_rfl) (by kernel_rfl) (by kernel_rfl) (fun _ _ _ h => h) (Or.inl ⟨by rfl, ?_⟩) (by assumption) ?_; rotate_left; focus (intro wS hSw; (first | obtain ⟨e1, e2, e3, e4, e5⟩ := hSw | skip); go_simp; (try with_reducible rfl); done); (try simp only [Act.put, List.setIfInBounds_toArray, List.set_cons_zero, List.set_cons_succ]))
      refine wpAnyH_done (by kernel_rfl) ?_ _
      refine NoPanic.normal ?_
      have HE := Lib.hid (HBW.out _ hQ.stored)
      clear hHeld hQ
      go_wp2_with fail
      go_ret
      exact ⟨rfl, HE.out⟩
     ·go_simp
      have hQ := hQ.node
      refine hKK.out _ _ (HS.out _ hQ.bel) (fun hHeld2 => ?_)
      clear hKK KK hHeld
      have hHeld := hHeld2
      clear hHeld2
      try simp only [Act.put, List.setIfInBounds_toArray, List.set_cons_zero, List.set_cons_succ]
      obtain ⟨u3, hu⟩ : ∃ z, u2.alloc (.cells #[.int .u8 ti, .slice Ai li ii, .slice Ki mi ni] 33) = z := ⟨_, rfl⟩
      rw [hu] at hHeld hQ ⊢
      clear hu
      obtain ⟨b11, hu⟩ : ∃ z, u2.heap.size = z := ⟨_, rfl⟩
      rw [hu] at hQ ⊢
      clear hu
      refine wpAnyH_ready (rs := [5]) (by kernel_rfl) (by simp) ?_
      refine AllReadyH.cons (o := ⟨_, _, _, _, _, _⟩) rfl (fun KK hKK => ?_) AllReadyH.nil
      obtain ⟨G5, C5, u4, hrun, hQ⟩ := hQ.app5 (c1 := c1) (HL.out _ hQ.bel) HWL.out HM.out h2' hm5
      refine step_run rfl (.tmp 70) (.tmp 72) 31 rfl _ _ _ (by first | rfl | simp [Act.eval, Act.put]) (by first | rfl | simp [Act.eval, Act.put]) hrun (hKK.out _ _ (HS.out _ hQ.bel) (fun hHeld2 => ?_))
      clear hrun
      clear hKK KK hHeld
      have hHeld := hHeld2
      clear hHeld2
      try simp only [Act.put, List.setIfInBounds_toArray, List.set_cons_zero, List.set_cons_succ]
      refine wpAnyH_ready (rs := [12]) (by kernel_rfl) (by simp) ?_
      refine AllReadyH.cons (o := ⟨_, _, _, _, _, _⟩) rfl (fun KK hKK => ?_) AllReadyH.nil
      obtain ⟨G12, C12, u5, hrun, hQ⟩ := hQ.app12 (HNI.out _ hQ.bel) HWL.out HM.out h2' hm5
      refine step_run rfl (.tmp 73) (.tmp 79) 31 rfl _ _ _ (by first | rfl | simp [Act.eval, Act.put]) (by first | rfl | simp [Act.eval, Act.put]) hrun (hKK.out _ _ (HS.out _ hQ.bel) (fun hHeld2 => ?_))
      clear hrun
      clear hKK KK hHeld
      have hHeld := hHeld2
      clear hHeld2
      try simp only [Act.put, List.setIfInBounds_toArray, List.set_cons_zero, List.set_cons_succ]
      (refine wpAnyH_take (i := 13) (oi := ⟨_, _, _, _, _, _⟩) (v := ?_) rfl (by kernel_rfl) (by kernel_rfl) (by kernel_rfl) (fun _ _ _ h => h) (Or.inl ⟨by rfl, ?_⟩) (by assumption) ?_; rotate_left; focus (intro wS hSw; (first | obtain ⟨e1, e2, e3, e4, e5⟩ := hSw | skip); go_simp; (try with_reducible rfl); done); (try simp only [Act.put, List.setIfInBounds_toArray, List.set_cons_zero, List.set_cons_succ]))
      refine wpAnyH_ready (rs := [14]) (by kernel_rfl) (by simp) ?_
      refine AllReadyH.cons (o := ⟨_, _, _, _, _, _⟩) rfl (fun KK hKK => ?_) AllReadyH.nil
      go_simp
      refine (HGET.out _ _ _ hQ.bel (hQ.row _ _ _ _ rfl)).mono ?_
      rintro e u6 ⟨hb, rfl⟩
      dsimp only
      have hQ := hQ.below hb
      clear hb
      refine hKK.out _ _ (HS.out _ hQ.bel) (fun hHeld2 => ?_)
      clear hKK KK hHeld
      have hHeld := hHeld2
      clear hHeld2
      try simp only [Act.put, List.setIfInBounds_toArray, List.set_cons_zero, List.set_cons_succ]
      (refine wpAnyH_take (i := 15) (oi := ⟨_, _, _, _, _, _⟩) (v := ?_) rfl (by kernel_rfl) (by kernel_rfl) (by kernel_rfl) (fun _ _ _ h => h) (Or.inl ⟨by rfl, ?_⟩) (by assumption) ?_; rotate_left; focus (intro wS hSw; (first | obtain ⟨e1, e2, e3, e4, e5⟩ := hSw | skip); go_simp; (try with_reducible rfl); done); (try simp only [Act.put, List.setIfInBounds_toArray, List.set_cons_zero, List.set_cons_succ]))
      (refine wpAnyH_take (i := 16) (oi := ⟨_, _, _, _, _, _⟩) (v := ?_) rfl (by kernel_rfl) (by kernel_rfl) (by kernel_rfl) (fun _ _ _ h => h) (Or.inl ⟨by rfl, ?_⟩) (by assumption) ?_; rotate_left; focus (intro wS hSw; (first | obtain ⟨e1, e2, e3, e4, e5⟩ := hSw | skip); go_simp; (try with_reducible rfl); done); (try simp only [Act.put, List.setIfInBounds_toArray, List.set_cons_zero, List.set_cons_succ]))
      (refine wpAnyH_take (i := 17) (oi := ⟨_, _, _, _, _, _⟩) (v := ?_) rfl (by kernel_rfl) (by kernel_rfl) (by kernel_rfl) (fun _ _ _ h => h) (Or.inl ⟨by rfl, ?_⟩) (by assumption) ?_; rotate_left; focus (intro wS hSw; (first | obtain ⟨e1, e2, e3, e4, e5⟩ := hSw | skip); go_simp; (try with_reducible rfl); done); (try simp only [Act.put, List.setIfInBounds_toArray, List.set_cons_zero, List.set_cons_succ]))
      obtain ⟨⟨f0, f1, f2, f3, f4, f5, f6, f7, f8⟩, s0, s1, s2, s3, s4, s5, s6, s7, s8⟩ := hQ.facts
      refine wpAnyH_ready (rs := [19]) (by kernel_rfl) (by simp) ?_
      refine AllReadyH.cons (o := ⟨_, _, _, _, _, _⟩) rfl (fun KK hKK => ?_) AllReadyH.nil
      go_simp
      refine hKK.out _ _ (HS.out _ hQ.stored) (fun hHeld2 => ?_)
      clear hKK KK hHeld f0 f1 f2 f3 f4 f5 f6 f7 f8 s0 s1 s2 s3 s4 s5 s6 s7 s8
      have hHeld := hHeld2
      clear hHeld2
      try simp only [Act.put, List.setIfInBounds_toArray, List.set_cons_zero, List.set_cons_succ]
      (refine wpAnyH_take (i := 20) (oi := ⟨_, _, _, _, _, _⟩) (v := ?_) rfl (by kernel_rfl) (by kernel_rfl) (by kernel_rfl) (fun _ _ _ h => h) (Or.inl ⟨by rfl, ?_⟩) (by assumption) ?_; rotate_left; focus (intro wS hSw; (first | obtain ⟨e1, e2, e3, e4, e5⟩ := hSw | skip); go_simp; (try with_reducible rfl); done); (try simp only [Act.put, List.setIfInBounds_toArray, List.set_cons_zero, List.set_cons_succ]))
      refine wpAnyH_done (by kernel_rfl) ?_ _
      refine NoPanic.normal ?_
      have HE := Lib.hid (HBW.out _ hQ.stored)
      clear hHeld hQ
      go_wp2_with fail
      go_ret
      exact ⟨rfl, HE.out⟩
   ·go_simp
    have hQ := hQ.node
    refine hKK.out _ _ (HS.out _ hQ.bel) (fun hHeld2 => ?_)
    clear hKK KK hHeld
    have hHeld := hHeld2
    clear hHeld2
    try simp only [Act.put, List.setIfInBounds_toArray, List.set_cons_zero, List.set_cons_succ]
    obtain ⟨u1, hu⟩ : ∃ z, wd.alloc (.cells #[.int .u8 ti, .slice Ai li ii, .slice Ki mi ni] 33) = z := ⟨_, rfl⟩
    rw [hu] at hHeld hQ ⊢
    clear hu
    obtain ⟨b11, hu⟩ : ∃ z, wd.heap.size = z := ⟨_, rfl⟩
    rw [hu] at hQ ⊢
    clear hu
    refine wpAnyH_ready (rs := [2, 18]) (by kernel_rfl) (by simp) ?_
    refine AllReadyH.cons (o := ⟨_, _, _, _, _, _⟩) rfl (fun KK hKK => ?_) (AllReadyH.cons (o := ⟨_, _, _, _, _, _⟩) rfl (fun KK hKK => ?_) AllReadyH.nil)
    ·go_simp
     have hQ := hQ.empty
     refine hKK.out _ _ (HS.out _ hQ.bel) (fun hHeld2 => ?_)
     clear hKK KK hHeld
     have hHeld := hHeld2
     clear hHeld2
     try simp only [Act.put, List.setIfInBounds_toArray, List.set_cons_zero, List.set_cons_succ]
     obtain ⟨u2, hu⟩ : ∃ z, u1.alloc (.cells #[] 33) = z := ⟨_, rfl⟩
     rw [hu] at hHeld hQ ⊢
     clear hu
     obtain ⟨e2, hu⟩ : ∃ z, u1.heap.size = z := ⟨_, rfl⟩
     rw [hu] at hQ ⊢
     clear hu
     refine wpAnyH_ready (rs := [5, 18]) (by kernel_rfl) (by simp) ?_
     refine AllReadyH.cons (o := ⟨_, _, _, _, _, _⟩) rfl (fun KK hKK => ?_) (AllReadyH.cons (o := ⟨_, _, _, _, _, _⟩) rfl (fun KK hKK => ?_) AllReadyH.nil)
     ·obtain ⟨G5, C5, u3, hrun, hQ⟩ := hQ.app5 (c1 := c1) (HL.out _ hQ.bel) HWL.out HM.out h2' hm5
      refine step_run rfl (.tmp 70) (.tmp 72) 31 rfl _ _ _ (by first | rfl | simp [Act.eval, Act.put]) (by first | rfl | simp [Act.eval, Act.put]) hrun (hKK.out _ _ (HS.out _ hQ.bel) (fun hHeld2 => ?_))
      clear hrun
      clear hKK KK hHeld
      have hHeld := hHeld2
      clear hHeld2
      try simp only [Act.put, List.setIfInBounds_toArray, List.set_cons_zero, List.set_cons_succ]
      refine wpAnyH_ready (rs := [12, 18]) (by kernel_rfl) (by simp) ?_
      refine AllReadyH.cons (o := ⟨_, _, _, _, _, _⟩) rfl (fun KK hKK => ?_) (AllReadyH.cons (o := ⟨_, _, _, _, _, _⟩) rfl (fun KK hKK => ?_) AllReadyH.nil)
      ·obtain ⟨G12, C12, u4, hrun, hQ⟩ := hQ.app12 (HNI.out _ hQ.bel) HWL.out HM.out h2' hm5
       refine step_run rfl (.tmp 73) (.tmp 79) 31 rfl _ _ _ (by first | rfl | simp [Act.eval, Act.put]) (by first | rfl | simp [Act.eval, Act.put]) hrun (hKK.out _ _ (HS.out _ hQ.bel) (fun hHeld2 => ?_))
       clear hrun
       clear hKK KK hHeld
       have hHeld := hHeld2
       clear hHeld2
       try simp only [Act.put, List.setIfInBounds_toArray, List.set_cons_zero, List.set_cons_succ]
       (refine wpAnyH_take (i := 13) (oi := ⟨_, _, _, _, _, _⟩) (v := ?_) rfl (by kernel_rfl) (by kernel_rfl) (by kernel_rfl) (fun _ _ _ h => h) (Or.inl ⟨by rfl, ?_⟩) (by assumption) ?_; rotate_left; focus (intro wS hSw; (first | obtain ⟨e1, e2, e3, e4, e5⟩ := hSw | skip); go_simp; (try with_reducible rfl); done); (try simp only [Act.put, List.setIfInBounds_toArray, List.set_cons_zero, List.set_cons_succ]))
       refine wpAnyH_ready (rs := [14, 18]) (by kernel_rfl) (by simp) ?_
       refine AllReadyH.cons (o := ⟨_, _, _, _, _, _⟩) rfl (fun KK hKK => ?_) (AllReadyH.cons (o := ⟨_, _, _, _, _, _⟩) rfl (fun KK hKK => ?_) AllReadyH.nil)
       ·go_simp
        refine (HGET.out _ _ _ hQ.bel (hQ.row _ _ _ _ rfl)).mono ?_
        rintro e u5 ⟨hb, rfl⟩
        dsimp only
        have hQ := hQ.below hb
        clear hb
        refine hKK.out _ _ (HS.out _ hQ.bel) (fun hHeld2 => ?_)
        clear hKK KK hHeld
        have hHeld := hHeld2
        clear hHeld2
        try simp only [Act.put, List.setIfInBounds_toArray, List.set_cons_zero, List.set_cons_succ]
        (refine wpAnyH_take (i := 15) (oi := ⟨_, _, _, _, _, _⟩) (v := ?_) rfl (by kernel_rfl) (by kernel_rfl) (by kernel_rfl) (fun _ _ _ h => h) (Or.inl ⟨by rfl, ?_⟩) (by assumption) ?_; rotate_left; focus (intro wS hSw; (first | obtain ⟨e1, e2, e3, e4, e5⟩ := hSw | skip); go_simp; (try with_reducible rfl); done); (try simp only [Act.put, List.setIfInBounds_toArray, List.set_cons_zero, List.set_cons_succ]))
        (refine wpAnyH_take (i := 16) (oi := ⟨_, _, _, _, _, _⟩) (v := ?_) rfl (by kernel_rfl) (by kernel_rfl) (by kernel_rfl) (fun _ _ _ h => h) (Or.inl ⟨by rfl, ?_⟩) (by assumption) ?_; rotate_left; focus (intro wS hSw; (first | obtain ⟨e1, e2, e3, e4, e5⟩ := hSw | skip); go_simp; (try with_reducible rfl); done); (try simp only [Act.put, List.setIfInBounds_toArray, List.set_cons_zero, List.set_cons_succ]))
        (refine wpAnyH_take (i := 17) (oi := ⟨_, _, _, _, _, _⟩) (v := ?_) rfl (by kernel_rfl) (by kernel_rfl) (by kernel_rfl) (fun _ _ _ h => h) (Or.inl ⟨by rfl, ?_⟩) (by assumption) ?_; rotate_left; focus (intro wS hSw; (first | obtain ⟨e1, e2, e3, e4, e5⟩ := hSw | skip); go_simp; (try with_reducible rfl); done); (try simp only [Act.put, List.setIfInBounds_toArray, List.set_cons_zero, List.set_cons_succ]))
        refine wpAnyH_ready (rs := [18]) (by kernel_rfl) (by simp) ?_
        refine AllReadyH.cons (o := ⟨_, _, _, _, _, _⟩) rfl (fun KK hKK => ?_) AllReadyH.nil
        go_simp
        have hQ := hQ.exts
        refine hKK.out _ _ (HS.out _ hQ.bel) (fun hHeld2 => ?_)
        clear hKK KK hHeld
        have hHeld := hHeld2
        clear hHeld2
        try simp only [Act.put, List.setIfInBounds_toArray, List.set_cons_zero, List.set_cons_succ]
        obtain ⟨u6, hu⟩ : ∃ z, u5.alloc (.cells #[.bool false, .bool false, .int .i64 0, .int .u16 0, .slice none 0 0, .slice none 0 0, .slice none 0 0, .slice none 0 0, .slice none 0 0] 28) = z := ⟨_, rfl⟩
        rw [hu] at hHeld hQ ⊢
        clear hu
        obtain ⟨r18, hu⟩ : ∃ z, u5.heap.size = z := ⟨_, rfl⟩
        rw [hu] at hQ ⊢
        clear hu
        obtain ⟨⟨f0, f1, f2, f3, f4, f5, f6, f7, f8⟩, s0, s1, s2, s3, s4, s5, s6, s7, s8⟩ := hQ.facts
        refine wpAnyH_ready (rs := [19]) (by kernel_rfl) (by simp) ?_
        refine AllReadyH.cons (o := ⟨_, _, _, _, _, _⟩) rfl (fun KK hKK => ?_) AllReadyH.nil
        go_simp
        refine hKK.out _ _ (HS.out _ hQ.stored) (fun hHeld2 => ?_)
        clear hKK KK hHeld f0 f1 f2 f3 f4 f5 f6 f7 f8 s0 s1 s2 s3 s4 s5 s6 s7 s8
        have hHeld := hHeld2
        clear hHeld2
        try simp only [Act.put, List.setIfInBounds_toArray, List.set_cons_zero, List.set_cons_succ]
        (refine wpAnyH_take (i := 20) (oi := ⟨_, _, _, _, _, _⟩) (v := ?_) rfl (by kernel_rfl) (by kernel_rfl) (by kernel_rfl) (fun _ _ _ h => h) (Or.inl ⟨by rfl, ?_⟩) (by assumption) ?_; rotate_left; focus (intro wS hSw; (first | obtain ⟨e1, e2, e3, e4, e5⟩ := hSw | skip); go_simp; (try with_reducible rfl); done); (try simp only [Act.put, List.setIfInBounds_toArray, List.set_cons_zero, List.set_cons_succ]))
        refine wpAnyH_done (by kernel_rfl) ?_ _
        refine NoPanic.normal ?_
        have HE := Lib.hid (HBW.out _ hQ.stored)
        clear hHeld hQ
        go_wp2_with fail
        go_ret
        exact ⟨rfl, HE.out⟩
       ·go_simp
        have hQ := hQ.exts
        refine hKK.out _ _ (HS.out _ hQ.bel) (fun hHeld2 => ?_)
        clear hKK KK hHeld
        have hHeld := hHeld2
        clear hHeld2
        try simp only [Act.put, List.setIfInBounds_toArray, List.set_cons_zero, List.set_cons_succ]
        obtain ⟨u5, hu⟩ : ∃ z, u4.alloc (.cells #[.bool false, .bool false, .int .i64 0, .int .u16 0, .slice none 0 0, .slice none 0 0, .slice none 0 0, .slice none 0 0, .slice none 0 0] 28) = z := ⟨_, rfl⟩
        rw [hu] at hHeld hQ ⊢
        clear hu
        obtain ⟨r18, hu⟩ : ∃ z, u4.heap.size = z := ⟨_, rfl⟩
        rw [hu] at hQ ⊢
        clear hu
        refine wpAnyH_ready (rs := [14]) (by kernel_rfl) (by simp) ?_
        refine AllReadyH.cons (o := ⟨_, _, _, _, _, _⟩) rfl (fun KK hKK => ?_) AllReadyH.nil
        go_simp
        refine (HGET.out _ _ _ hQ.bel (hQ.row _ _ _ _ rfl)).mono ?_
        rintro e u6 ⟨hb, rfl⟩
        dsimp only
        have hQ := hQ.below hb
        clear hb
        refine hKK.out _ _ (HS.out _ hQ.bel) (fun hHeld2 => ?_)
        clear hKK KK hHeld
        have hHeld := hHeld2
        clear hHeld2
        try simp only [Act.put, List.setIfInBounds_toArray, List.set_cons_zero, List.set_cons_succ]
        (refine wpAnyH_take (i := 15) (oi := ⟨_, _, _, _, _, _⟩) (v := ?_) rfl (by kernel_rfl) (by kernel_rfl) (by kernel_rfl) (fun _ _ _ h => h) (Or.inl ⟨by rfl, ?_⟩) (by assumption) ?_; rotate_left; focus (intro wS hSw; (first | obtain ⟨e1, e2, e3, e4, e5⟩ := hSw | skip); go_simp; (try with_reducible rfl); done); (try simp only [Act.put, List.setIfInBounds_toArray, List.set_cons_zero, List.set_cons_succ]))
        (refine wpAnyH_take (i := 16) (oi := ⟨_, _, _, _, _, _⟩) (v := ?_) rfl (by kernel_rfl) (by kernel_rfl) (by kernel_rfl) (fun _ _ _ h => h) (Or.inl ⟨by rfl, ?_⟩) (by assumption) ?_; rotate_left; focus (intro wS hSw; (first | obtain ⟨e1, e2, e3, e4, e5⟩ := hSw | skip); go_simp; (try with_reducible rfl); done); (try simp only [Act.put, List.setIfInBounds_toArray, List.set_cons_zero, List.set_cons_succ]))
        (refine wpAnyH_take (i := 17) (oi := ⟨_, _, _, _, _, _⟩) (v := ?_) rfl (by kernel_rfl) (by kernel_rfl) (by kernel_rfl) (fun _ _ _ h => h) (Or.inl ⟨by rfl, ?_⟩) (by assumption) ?_; rotate_left; focus (intro wS hSw; (first | obtain ⟨e1, e2, e3, e4, e5⟩ := hSw | skip); go_simp; (try with_reducible rfl); done); (try simp only [Act.put, List.setIfInBounds_toArray, List.set_cons_zero, List.set_cons_succ]))
        obtain ⟨⟨f0, f1, f2, f3, f4, f5, f6, f7, f8⟩, s0, s1, s2, s3, s4, s5, s6, s7, s8⟩ := hQ.facts
        refine wpAnyH_ready (rs := [19]) (by kernel_rfl) (by simp) ?_
        refine AllReadyH.cons (o := ⟨_, _, _, _, _, _⟩) rfl (fun KK hKK => ?_) AllReadyH.nil
        go_simp
        refine hKK.out _ _ (HS.out _ hQ.stored) (fun hHeld2 => ?_)
        clear hKK KK hHeld f0 f1 f2 f3 f4 f5 f6 f7 f8 s0 s1 s2 s3 s4 s5 s6 s7 s8
        have hHeld := hHeld2
        clear hHeld2
        try simp only [Act.put, List.setIfInBounds_toArray, List.set_cons_zero, List.set_cons_succ]
        (refine wpAnyH_take (i := 20) (oi := ⟨_, _, _, _, _, _⟩) (v := ?_) rfl (by kernel_rfl) (by kernel_rfl) (by kernel_rfl) (fun _ _ _ h => h) (Or.inl ⟨by rfl, ?_⟩) (by assumption) ?_; rotate_left; focus (intro wS hSw; (first | obtain ⟨e1, e2, e3, e4, e5⟩ := hSw | skip); go_simp; (try with_reducible rfl); done); (try simp only [Act.put, List.setIfInBounds_toArray, List.set_cons_zero, List.set_cons_succ]))
        refine wpAnyH_done (by kernel_rfl) ?_ _
        refine NoPanic.normal ?_
        have HE := Lib.hid (HBW.out _ hQ.stored)
        clear hHeld hQ
        go_wp2_with fail
        go_ret
        exact ⟨rfl, HE.out⟩
      ·go_simp
       have hQ := hQ.exts
       refine hKK.out _ _ (HS.out _ hQ.bel) (fun hHeld2 => ?_)
       clear hKK KK hHeld
       have hHeld := hHeld2
       clear hHeld2
       try simp only [Act.put, List.setIfInBounds_toArray, List.set_cons_zero, List.set_cons_succ]
       obtain ⟨u4, hu⟩ : ∃ z, u3.alloc (.cells #[.bool false, .bool false, .int .i64 0, .int .u16 0, .slice none 0 0, .slice none 0 0, .slice none 0 0, .slice none 0 0, .slice none 0 0] 28) = z := ⟨_, rfl⟩
       rw [hu] at hHeld hQ ⊢
       clear hu
       obtain ⟨r18, hu⟩ : ∃ z, u3.heap.size = z := ⟨_, rfl⟩
       rw [hu] at hQ ⊢
       clear hu
       refine wpAnyH_ready (rs := [12]) (by kernel_rfl) (by simp) ?_
       refine AllReadyH.cons (o := ⟨_, _, _, _, _, _⟩) rfl (fun KK hKK => ?_) AllReadyH.nil
       obtain ⟨G12, C12, u5, hrun, hQ⟩ := hQ.app12 (HNI.out _ hQ.bel) HWL.out HM.out h2' hm5
       refine step_run rfl (.tmp 73) (.tmp 79) 31 rfl _ _ _ (by first | rfl | simp [Act.eval, Act.put]) (by first | rfl | simp [Act.eval, Act.put]) hrun (hKK.out _ _ (HS.out _ hQ.bel) (fun hHeld2 => ?_))
       clear hrun
       clear hKK KK hHeld
       have hHeld := hHeld2
       clear hHeld2
       try simp only [Act.put, List.setIfInBounds_toArray, List.set_cons_zero, List.set_cons_succ]
       (refine wpAnyH_take (i := 13) (oi := ⟨_, _, _, _, _, _⟩) (v := ?_) rfl (by kernel_rfl) (by kernel_rfl) (by kernel_rfl) (fun _ _ _ h => h) (Or.inl ⟨by rfl, ?_⟩) (by assumption) ?_; rotate_left; focus (intro wS hSw; (first | obtain ⟨e1, e2, e3, e4, e5⟩ := hSw | skip); go_simp; (try with_reducible rfl); done); (try simp only [Act.put, List.setIfInBounds_toArray, List.set_cons_zero, List.set_cons_succ]))
       refine wpAnyH_ready (rs := [14]) (by kernel_rfl) (by simp) ?_
       refine AllReadyH.cons (o := ⟨_, _, _, _, _, _⟩) rfl (fun KK hKK => ?_) AllReadyH.nil
       go_simp
       refine (HGET.out _ _ _ hQ.bel (hQ.row _ _ _ _ rfl)).mono ?_
       rintro e u6 ⟨hb, rfl⟩
       dsimp only
       have hQ := hQ.below hb
       clear hb
       refine hKK.out _ _ (HS.out _ hQ.bel) (fun hHeld2 => ?_)
       clear hKK KK hHeld
       have hHeld := hHeld2
       clear hHeld2
       try simp only [Act.put, List.setIfInBounds_toArray, List.set_cons_zero, List.set_cons_succ]
       (refine wpAnyH_take (i := 15) (oi := ⟨_, _, _, _, _, _⟩) (v := ?_) rfl (by kernel_rfl) (by kernel_rfl) (by kernel_rfl) (fun _ _ _ h => h) (Or.inl ⟨by rfl, ?_⟩) (by assumption) ?_; rotate_left; focus (intro wS hSw; (first | obtain ⟨e1, e2, e3, e4, e5⟩ := hSw | skip); go_simp; (try with_reducible rfl); done); (try simp only [Act.put, List.setIfInBounds_toArray, List.set_cons_zero, List.set_cons_succ]))
       (refine wpAnyH_take (i := 16) (oi := ⟨_, _, _, _, _, _⟩) (v := ?_) rfl (by kernel_rfl) (by kernel_rfl) (by kernel_rfl) (fun _ _ _ h => h) (Or.inl ⟨by rfl, ?_⟩) (by assumption) ?_; rotate_left; focus (intro wS hSw; (first | obtain ⟨e1, e2, e3, e4, e5⟩ := hSw | skip); go_simp; (try with_reducible rfl); done); (try simp only [Act.put, List.setIfInBounds_toArray, List.set_cons_zero, List.set_cons_succ]))
       (refine wpAnyH_take (i := 17) (oi := ⟨_, _, _, _, _, _⟩) (v := ?_) rfl (by kernel_rfl) (by kernel_rfl) (by kernel_rfl) (fun _ _ _ h => h) (Or.inl ⟨by rfl, ?_⟩) (by assumption) ?_; rotate_left; focus (intro wS hSw; (first | obtain ⟨e1, e2, e3, e4, e5⟩ := hSw | skip); go_simp; (try with_reducible rfl); done); (try simp only [Act.put, List.setIfInBounds_toArray, List.set_cons_zero, List.set_cons_succ]))
       obtain ⟨⟨f0, f1, f2, f3, f4, f5, f6, f7, f8⟩, s0, s1, s2, s3, s4, s5, s6, s7, s8⟩ := hQ.facts
       refine wpAnyH_ready (rs := [19]) (by kernel_rfl) (by simp) ?_
       refine AllReadyH.cons (o := ⟨_, _, _, _, _, _⟩) rfl (fun KK hKK => ?_) AllReadyH.nil
       go_simp
       refine hKK.out _ _ (HS.out _ hQ.stored) (fun hHeld2 => ?_)
       clear hKK KK hHeld f0 f1 f2 f3 f4 f5 f6 f7 f8 s0 s1 s2 s3 s4 s5 s6 s7 s8
       have hHeld := hHeld2
       clear hHeld2
       try simp only [Act.put, List.setIfInBounds_toArray, List.set_cons_zero, List.set_cons_succ]
       (refine wpAnyH_take (i := 20) (oi := ⟨_, _, _, _, _, _⟩) (v := ?_) rfl (by kernel_rfl) (by kernel_rfl) (by kernel_rfl) (fun _ _ _ h => h) (Or.inl ⟨by rfl, ?_⟩) (by assumption) ?_; rotate_left; focus (intro wS hSw; (first | obtain ⟨e1, e2, e3, e4, e5⟩ := hSw | skip); go_simp; (try with_reducible rfl); done); (try simp only [Act.put, List.setIfInBounds_toArray, List.set_cons_zero, List.set_cons_succ]))
       refine wpAnyH_done (by kernel_rfl) ?_ _
       refine NoPanic.normal ?_
       have HE := Lib.hid (HBW.out _ hQ.stored)
       clear hHeld hQ
       go_wp2_with fail
       go_ret
       exact ⟨rfl, HE.out⟩
     ·go_simp
      have hQ := hQ.exts
      refine hKK.out _ _ (HS.out _ hQ.bel) (fun hHeld2 => ?_)
      clear hKK KK hHeld
      have hHeld := hHeld2
      clear hHeld2
      try simp only [Act.put, List.setIfInBounds_toArray, List.set_cons_zero, List.set_cons_succ]
      obtain ⟨u3, hu⟩ : ∃ z, u2.alloc (.cells #[.bool false, .bool false, .int .i64 0, .int .u16 0, .slice none 0 0, .slice none 0 0, .slice none 0 0, .slice none 0 0, .slice none 0 0] 28) = z := ⟨_, rfl⟩
      rw [hu] at hHeld hQ ⊢
      clear hu
      obtain ⟨r18, hu⟩ : ∃ z, u2.heap.size = z := ⟨_, rfl⟩
      rw [hu] at hQ ⊢
      clear hu
      refine wpAnyH_ready (rs := [5]) (by kernel_rfl) (by simp) ?_
      refine AllReadyH.cons (o := ⟨_, _, _, _, _, _⟩) rfl (fun KK hKK => ?_) AllReadyH.nil
      obtain ⟨G5, C5, u4, hrun, hQ⟩ := hQ.app5 (c1 := c1) (HL.out _ hQ.bel) HWL.out HM.out h2' hm5
      refine step_run rfl (.tmp 70) (.tmp 72) 31 rfl _ _ _ (by first | rfl | simp [Act.eval, Act.put]) (by first | rfl | simp [Act.eval, Act.put]) hrun (hKK.out _ _ (HS.out _ hQ.bel) (fun hHeld2 => ?_))
      clear hrun
      clear hKK KK hHeld
      have hHeld := hHeld2
      clear hHeld2
      try simp only [Act.put, List.setIfInBounds_toArray, List.set_cons_zero, List.set_cons_succ]
      refine wpAnyH_ready (rs := [12]) (by kernel_rfl) (by simp) ?_
      refine AllReadyH.cons (o := ⟨_, _, _, _, _, _⟩) rfl (fun KK hKK => ?_) AllReadyH.nil
      obtain ⟨G12, C12, u5, hrun, hQ⟩ := hQ.app12 (HNI.out _ hQ.bel) HWL.out HM.out h2' hm5
      refine step_run rfl (.tmp 73) (.tmp 79) 31 rfl _ _ _ (by first | rfl | simp [Act.eval, Act.put]) (by first | rfl | simp [Act.eval, Act.put]) hrun (hKK.out _ _ (HS.out _ hQ.bel) (fun hHeld2 => ?_))
      clear hrun
      clear hKK KK hHeld
      have hHeld := hHeld2
      clear hHeld2
      try simp only [Act.put, List.setIfInBounds_toArray, List.set_cons_zero, List.set_cons_succ]
      (refine wpAnyH_take (i := 13) (oi := ⟨_, _, _, _, _, _⟩) (v := ?_) rfl (by kernel_rfl) (by kernel_rfl) (by kernel_rfl) (fun _ _ _ h => h) (Or.inl ⟨by rfl, ?_⟩) (by assumption) ?_; rotate_left; focus (intro wS hSw; (first | obtain ⟨e1, e2, e3, e4, e5⟩ := hSw | skip); go_simp; (try with_reducible rfl); done); (try simp only [Act.put, List.setIfInBounds_toArray, List.set_cons_zero, List.set_cons_succ]))
      refine wpAnyH_ready (rs := [14]) (by kernel_rfl) (by simp) ?_
      refine AllReadyH.cons (o := ⟨_, _, _, _, _, _⟩) rfl (fun KK hKK => ?_) AllReadyH.nil
      go_simp
      refine (HGET.out _ _ _ hQ.bel (hQ.row _ _ _ _ rfl)).mono ?_
      rintro e u6 ⟨hb, rfl⟩
      dsimp only
      have hQ := hQ.below hb
      clear hb
      refine hKK.out _ _ (HS.out _ hQ.bel) (fun hHeld2 => ?_)
      clear hKK KK hHeld
      have hHeld := hHeld2
      clear hHeld2
      try simp only [Act.put, List.setIfInBounds_toArray, List.set_cons_zero, List.set_cons_succ]
      (refine wpAnyH_take (i := 15) (oi := ⟨_, _, _, _, _, _⟩) (v := ?_) rfl (by kernel_rfl) (by kernel_rfl) (by kernel_rfl) (fun _ _ _ h => h) (Or.inl ⟨by rfl, ?_⟩) (by assumption) ?_; rotate_left; focus (intro wS hSw; (first | obtain ⟨e1, e2, e3, e4, e5⟩ := hSw | skip); go_simp; (try with_reducible rfl); done); (try simp only [Act.put, List.setIfInBounds_toArray, List.set_cons_zero, List.set_cons_succ]))
      (refine wpAnyH_take (i := 16) (oi := ⟨_, _, _, _, _, _⟩) (v := ?_) rfl (by kernel_rfl) (by kernel_rfl) (by kernel_rfl) (fun _ _ _ h => h) (Or.inl ⟨by rfl, ?_⟩) (by assumption) ?_; rotate_left; focus (intro wS hSw; (first | obtain ⟨e1, e2, e3, e4, e5⟩ := hSw | skip); go_simp; (try with_reducible rfl); done); (try simp only [Act.put, List.setIfInBounds_toArray, List.set_cons_zero, List.set_cons_succ]))
      (refine wpAnyH_take (i := 17) (oi := ⟨_, _, _, _, _, _⟩) (v := ?_) rfl (by kernel_rfl) (by kernel_rfl) (by kernel_rfl) (fun _ _ _ h => h) (Or.inl ⟨by rfl, ?_⟩) (by assumption) ?_; rotate_left; focus (intro wS hSw; (first | obtain ⟨e1, e2, e3, e4, e5⟩ := hSw | skip); go_simp; (try with_reducible rfl); done); (try simp only [Act.put, List.setIfInBounds_toArray, List.set_cons_zero, List.set_cons_succ]))
      obtain ⟨⟨f0, f1, f2, f3, f4, f5, f6, f7, f8⟩, s0, s1, s2, s3, s4, s5, s6, s7, s8⟩ := hQ.facts
      refine wpAnyH_ready (rs := [19]) (by kernel_rfl) (by simp) ?_
      refine AllReadyH.cons (o := ⟨_, _, _, _, _, _⟩) rfl (fun KK hKK => ?_) AllReadyH.nil
      go_simp
      refine hKK.out _ _ (HS.out _ hQ.stored) (fun hHeld2 => ?_)
      clear hKK KK hHeld f0 f1 f2 f3 f4 f5 f6 f7 f8 s0 s1 s2 s3 s4 s5 s6 s7 s8
      have hHeld := hHeld2
      clear hHeld2
      try simp only [Act.put, List.setIfInBounds_toArray, List.set_cons_zero, List.set_cons_succ]
      (refine wpAnyH_take (i := 20) (oi := ⟨_, _, _, _, _, _⟩) (v := ?_) rfl (by kernel_rfl) (by kernel_rfl) (by kernel_rfl) (fun _ _ _ h => h) (Or.inl ⟨by rfl, ?_⟩) (by assumption) ?_; rotate_left; focus (intro wS hSw; (first | obtain ⟨e1, e2, e3, e4, e5⟩ := hSw | skip); go_simp; (try with_reducible rfl); done); (try simp only [Act.put, List.setIfInBounds_toArray, List.set_cons_zero, List.set_cons_succ]))
      refine wpAnyH_done (by kernel_rfl) ?_ _
      refine NoPanic.normal ?_
      have HE := Lib.hid (HBW.out _ hQ.stored)
      clear hHeld hQ
      go_wp2_with fail
      go_ret
      exact ⟨rfl, HE.out⟩
    ·go_simp
     have hQ := hQ.exts
     refine hKK.out _ _ (HS.out _ hQ.bel) (fun hHeld2 => ?_)
     clear hKK KK hHeld
     have hHeld := hHeld2
     clear hHeld2
     try simp only [Act.put, List.setIfInBounds_toArray, List.set_cons_zero, List.set_cons_succ]
     obtain ⟨u2, hu⟩ : ∃ z, u1.alloc (.cells #[.bool false, .bool false, .int .i64 0, .int .u16 0, .slice none 0 0, .slice none 0 0, .slice none 0 0, .slice none 0 0, .slice none 0 0] 28) = z := ⟨_, rfl⟩
     rw [hu] at hHeld hQ ⊢
     clear hu
     obtain ⟨r18, hu⟩ : ∃ z, u1.heap.size = z := ⟨_, rfl⟩
     rw [hu] at hQ ⊢
     clear hu
     refine wpAnyH_ready (rs := [2]) (by kernel_rfl) (by simp) ?_
     refine AllReadyH.cons (o := ⟨_, _, _, _, _, _⟩) rfl (fun KK hKK => ?_) AllReadyH.nil
     go_simp
     have hQ := hQ.empty
     refine hKK.out _ _ (HS.out _ hQ.bel) (fun hHeld2 => ?_)
     clear hKK KK hHeld
     have hHeld := hHeld2
     clear hHeld2
     try simp only [Act.put, List.setIfInBounds_toArray, List.set_cons_zero, List.set_cons_succ]
     obtain ⟨u3, hu⟩ : ∃ z, u2.alloc (.cells #[] 33) = z := ⟨_, rfl⟩
     rw [hu] at hHeld hQ ⊢
     clear hu
     obtain ⟨e2, hu⟩ : ∃ z, u2.heap.size = z := ⟨_, rfl⟩
     rw [hu] at hQ ⊢
     clear hu
     refine wpAnyH_ready (rs := [5]) (by kernel_rfl) (by simp) ?_
     refine AllReadyH.cons (o := ⟨_, _, _, _, _, _⟩) rfl (fun KK hKK => ?_) AllReadyH.nil
     obtain ⟨G5, C5, u4, hrun, hQ⟩ := hQ.app5 (c1 := c1) (HL.out _ hQ.bel) HWL.out HM.out h2' hm5
     refine step_run rfl (.tmp 70) (.tmp 72) 31 rfl _ _ _ (by first | rfl | simp [Act.eval, Act.put]) (by first | rfl | simp [Act.eval, Act.put]) hrun (hKK.out _ _ (HS.out _ hQ.bel) (fun hHeld2 => ?_))
     clear hrun
     clear hKK KK hHeld
     have hHeld := hHeld2
     clear hHeld2
     try simp only [Act.put, List.setIfInBounds_toArray, List.set_cons_zero, List.set_cons_succ]
     refine wpAnyH_ready (rs := [12]) (by kernel_rfl) (by simp) ?_
     refine AllReadyH.cons (o := ⟨_, _, _, _, _, _⟩) rfl (fun KK hKK => ?_) AllReadyH.nil
     obtain ⟨G12, C12, u5, hrun, hQ⟩ := hQ.app12 (HNI.out _ hQ.bel) HWL.out HM.out h2' hm5
     refine step_run rfl (.tmp 73) (.tmp 79) 31 rfl _ _ _ (by first | rfl | simp [Act.eval, Act.put]) (by first | rfl | simp [Act.eval, Act.put]) hrun (hKK.out _ _ (HS.out _ hQ.bel) (fun hHeld2 => ?_))
     clear hrun
     clear hKK KK hHeld
     have hHeld := hHeld2
     clear hHeld2
     try simp only [Act.put, List.setIfInBounds_toArray, List.set_cons_zero, List.set_cons_succ]
     (refine wpAnyH_take (i := 13) (oi := ⟨_, _, _, _, _, _⟩) (v := ?_) rfl (by kernel_rfl) (by kernel_rfl) (by kernel_rfl) (fun _ _ _ h => h) (Or.inl ⟨by rfl, ?_⟩) (by assumption) ?_; rotate_left; focus (intro wS hSw; (first | obtain ⟨e1, e2, e3, e4, e5⟩ := hSw | skip); go_simp; (try with_reducible rfl); done); (try simp only [Act.put, List.setIfInBounds_toArray, List.set_cons_zero, List.set_cons_succ]))
     refine wpAnyH_ready (rs := [14]) (by kernel_rfl) (by simp) ?_
     refine AllReadyH.cons (o := ⟨_, _, _, _, _, _⟩) rfl (fun KK hKK => ?_) AllReadyH.nil
     go_simp
     refine (HGET.out _ _ _ hQ.bel (hQ.row _ _ _ _ rfl)).mono ?_
     rintro e u6 ⟨hb, rfl⟩
     dsimp only
     have hQ := hQ.below hb
     clear hb
     refine hKK.out _ _ (HS.out _ hQ.bel) (fun hHeld2 => ?_)
     clear hKK KK hHeld
     have hHeld := hHeld2
     clear hHeld2
     try simp only [Act.put, List.setIfInBounds_toArray, List.set_cons_zero, List.set_cons_succ]
     (refine wpAnyH_take (i := 15) (oi := ⟨_, _, _, _, _, _⟩) (v := ?_) rfl (by kernel_rfl) (by kernel_rfl) (by kernel_rfl) (fun _ _ _ h => h) (Or.inl ⟨by rfl, ?_⟩) (by assumption) ?_; rotate_left; focus (intro wS hSw; (first | obtain ⟨e1, e2, e3, e4, e5⟩ := hSw | skip); go_simp; (try with_reducible rfl); done); (try simp only [Act.put, List.setIfInBounds_toArray, List.set_cons_zero, List.set_cons_succ]))
     (refine wpAnyH_take (i := 16) (oi := ⟨_, _, _, _, _, _⟩) (v := ?_) rfl (by kernel_rfl) (by kernel_rfl) (by kernel_rfl) (fun _ _ _ h => h) (Or.inl ⟨by rfl, ?_⟩) (by assumption) ?_; rotate_left; focus (intro wS hSw; (first | obtain ⟨e1, e2, e3, e4, e5⟩ := hSw | skip); go_simp; (try with_reducible rfl); done); (try simp only [Act.put, List.setIfInBounds_toArray, List.set_cons_zero, List.set_cons_succ]))
     (refine wpAnyH_take (i := 17) (oi := ⟨_, _, _, _, _, _⟩) (v := ?_) rfl (by kernel_rfl) (by kernel_rfl) (by kernel_rfl) (fun _ _ _ h => h) (Or.inl ⟨by rfl, ?_⟩) (by assumption) ?_; rotate_left; focus (intro wS hSw; (first | obtain ⟨e1, e2, e3, e4, e5⟩ := hSw | skip); go_simp; (try with_reducible rfl); done); (try simp only [Act.put, List.setIfInBounds_toArray, List.set_cons_zero, List.set_cons_succ]))
     obtain ⟨⟨f0, f1, f2, f3, f4, f5, f6, f7, f8⟩, s0, s1, s2, s3, s4, s5, s6, s7, s8⟩ := hQ.facts
     refine wpAnyH_ready (rs := [19]) (by kernel_rfl) (by simp) ?_
     refine AllReadyH.cons (o := ⟨_, _, _, _, _, _⟩) rfl (fun KK hKK => ?_) AllReadyH.nil
     go_simp
     refine hKK.out _ _ (HS.out _ hQ.stored) (fun hHeld2 => ?_)
     clear hKK KK hHeld f0 f1 f2 f3 f4 f5 f6 f7 f8 s0 s1 s2 s3 s4 s5 s6 s7 s8
     have hHeld := hHeld2
     clear hHeld2
     try simp only [Act.put, List.setIfInBounds_toArray, List.set_cons_zero, List.set_cons_succ]
     (refine wpAnyH_take (i := 20) (oi := ⟨_, _, _, _, _, _⟩) (v := ?_) rfl (by kernel_rfl) (by kernel_rfl) (by kernel_rfl) (fun _ _ _ h => h) (Or.inl ⟨by rfl, ?_⟩) (by assumption) ?_; rotate_left; focus (intro wS hSw; (first | obtain ⟨e1, e2, e3, e4, e5⟩ := hSw | skip); go_simp; (try with_reducible rfl); done); (try simp only [Act.put, List.setIfInBounds_toArray, List.set_cons_zero, List.set_cons_succ]))
     refine wpAnyH_done (by kernel_rfl) ?_ _
     refine NoPanic.normal ?_
     have HE := Lib.hid (HBW.out _ hQ.stored)
     clear hHeld hQ
     go_wp2_with fail
     go_ret
     exact ⟨rfl, HE.out⟩
   ·go_simp
    have hQ := hQ.exts
    refine hKK.out _ _ (HS.out _ hQ.bel) (fun hHeld2 => ?_)
    clear hKK KK hHeld
    have hHeld := hHeld2
    clear hHeld2
    try simp only [Act.put, List.setIfInBounds_toArray, List.set_cons_zero, List.set_cons_succ]
    obtain ⟨u1, hu⟩ : ∃ z, wd.alloc (.cells #[.bool false, .bool false, .int .i64 0, .int .u16 0, .slice none 0 0, .slice none 0 0, .slice none 0 0, .slice none 0 0, .slice none 0 0] 28) = z := ⟨_, rfl⟩
    rw [hu] at hHeld hQ ⊢
    clear hu
    obtain ⟨r18, hu⟩ : ∃ z, wd.heap.size = z := ⟨_, rfl⟩
    rw [hu] at hQ ⊢
    clear hu
    refine wpAnyH_ready (rs := [2, 11]) (by kernel_rfl) (by simp) ?_
    refine AllReadyH.cons (o := ⟨_, _, _, _, _, _⟩) rfl (fun KK hKK => ?_) (AllReadyH.cons (o := ⟨_, _, _, _, _, _⟩) rfl (fun KK hKK => ?_) AllReadyH.nil)
    ·go_simp
     have hQ := hQ.empty
     refine hKK.out _ _ (HS.out _ hQ.bel) (fun hHeld2 => ?_)
     clear hKK KK hHeld
     have hHeld := hHeld2
     clear hHeld2
     try simp only [Act.put, List.setIfInBounds_toArray, List.set_cons_zero, List.set_cons_succ]
     obtain ⟨u2, hu⟩ : ∃ z, u1.alloc (.cells #[] 33) = z := ⟨_, rfl⟩
     rw [hu] at hHeld hQ ⊢
     clear hu
     obtain ⟨e2, hu⟩ : ∃ z, u1.heap.size = z := ⟨_, rfl⟩
     rw [hu] at hQ ⊢
     clear hu
     refine wpAnyH_ready (rs := [5, 11]) (by kernel_rfl) (by simp) ?_
     refine AllReadyH.cons (o := ⟨_, _, _, _, _, _⟩) rfl (fun KK hKK => ?_) (AllReadyH.cons (o := ⟨_, _, _, _, _, _⟩) rfl (fun KK hKK => ?_) AllReadyH.nil)
     ·obtain ⟨G5, C5, u3, hrun, hQ⟩ := hQ.app5 (c1 := c1) (HL.out _ hQ.bel) HWL.out HM.out h2' hm5
      refine step_run rfl (.tmp 70) (.tmp 72) 31 rfl _ _ _ (by first | rfl | simp [Act.eval, Act.put]) (by first | rfl | simp [Act.eval, Act.put]) hrun (hKK.out _ _ (HS.out _ hQ.bel) (fun hHeld2 => ?_))
      clear hrun
      clear hKK KK hHeld
      have hHeld := hHeld2
      clear hHeld2
      try simp only [Act.put, List.setIfInBounds_toArray, List.set_cons_zero, List.set_cons_succ]
      refine wpAnyH_ready (rs := [11]) (by kernel_rfl) (by simp) ?_
      refine AllReadyH.cons (o := ⟨_, _, _, _, _, _⟩) rfl (fun KK hKK => ?_) AllReadyH.nil
      go_simp
      have hQ := hQ.node
      refine hKK.out _ _ (HS.out _ hQ.bel) (fun hHeld2 => ?_)
      clear hKK KK hHeld
      have hHeld := hHeld2
      clear hHeld2
      try simp only [Act.put, List.setIfInBounds_toArray, List.set_cons_zero, List.set_cons_succ]
      obtain ⟨u4, hu⟩ : ∃ z, u3.alloc (.cells #[.int .u8 ti, .slice Ai li ii, .slice Ki mi ni] 33) = z := ⟨_, rfl⟩
      rw [hu] at hHeld hQ ⊢
      clear hu
      obtain ⟨b11, hu⟩ : ∃ z, u3.heap.size = z := ⟨_, rfl⟩
      rw [hu] at hQ ⊢
      clear hu
      refine wpAnyH_ready (rs := [12]) (by kernel_rfl) (by simp) ?_
      refine AllReadyH.cons (o := ⟨_, _, _, _, _, _⟩) rfl (fun KK hKK => ?_) AllReadyH.nil
      obtain ⟨G12, C12, u5, hrun, hQ⟩ := hQ.app12 (HNI.out _ hQ.bel) HWL.out HM.out h2' hm5
      refine step_run rfl (.tmp 73) (.tmp 79) 31 rfl _ _ _ (by first | rfl | simp [Act.eval, Act.put]) (by first | rfl | simp [Act.eval, Act.put]) hrun (hKK.out _ _ (HS.out _ hQ.bel) (fun hHeld2 => ?_))
      clear hrun
      clear hKK KK hHeld
      have hHeld := hHeld2
      clear hHeld2
      try simp only [Act.put, List.setIfInBounds_toArray, List.set_cons_zero, List.set_cons_succ]
      (refine wpAnyH_take (i := 13) (oi := ⟨_, _, _, _, _, _⟩) (v := ?_) rfl (by kernel_rfl) (by kernel_rfl) (by kernel_rfl) (fun _ _ _ h => h) (Or.inl ⟨by rfl, ?_⟩) (by assumption) ?_; rotate_left; focus (intro wS hSw; (first | obtain ⟨e1, e2, e3, e4, e5⟩ := hSw | skip); go_simp; (try with_reducible rfl); done); (try simp only [Act.put, List.setIfInBounds_toArray, List.set_cons_zero, List.set_cons_succ]))
      refine wpAnyH_ready (rs := [14]) (by kernel_rfl) (by simp) ?_
      refine AllReadyH.cons (o := ⟨_, _, _, _, _, _⟩) rfl (fun KK hKK => ?_) AllReadyH.nil
      go_simp
      refine (HGET.out _ _ _ hQ.bel (hQ.row _ _ _ _ rfl)).mono ?_
      rintro e u6 ⟨hb, rfl⟩
      dsimp only
      have hQ := hQ.below hb
      clear hb
      refine hKK.out _ _ (HS.out _ hQ.bel) (fun hHeld2 => ?_)
      clear hKK KK hHeld
      have hHeld := hHeld2
      clear hHeld2
      try simp only [Act.put, List.setIfInBounds_toArray, List.set_cons_zero, List.set_cons_succ]
      (refine wpAnyH_take (i := 15) (oi := ⟨_, _, _, _, _, _⟩) (v := ?_) rfl (by kernel_rfl) (by kernel_rfl) (by kernel_rfl) (fun _ _ _ h => h) (Or.inl ⟨by rfl, ?_⟩) (by assumption) ?_; rotate_left; focus (intro wS hSw; (first | obtain ⟨e1, e2, e3, e4, e5⟩ := hSw | skip); go_simp; (try with_reducible rfl); done); (try simp only [Act.put, List.setIfInBounds_toArray, List.set_cons_zero, List.set_cons_succ]))
      (refine wpAnyH_take (i := 16) (oi := ⟨_, _, _, _, _, _⟩) (v := ?_) rfl (by kernel_rfl) (by kernel_rfl) (by kernel_rfl) (fun _ _ _ h => h) (Or.inl ⟨by rfl, ?_⟩) (by assumption) ?_; rotate_left; focus (intro wS hSw; (first | obtain ⟨e1, e2, e3, e4, e5⟩ := hSw | skip); go_simp; (try with_reducible rfl); done); (try simp only [Act.put, List.setIfInBounds_toArray, List.set_cons_zero, List.set_cons_succ]))
      (refine wpAnyH_take (i := 17) (oi := ⟨_, _, _, _, _, _⟩) (v := ?_) rfl (by kernel_rfl) (by kernel_rfl) (by kernel_rfl) (fun _ _ _ h => h) (Or.inl ⟨by rfl, ?_⟩) (by assumption) ?_; rotate_left; focus (intro wS hSw; (first | obtain ⟨e1, e2, e3, e4, e5⟩ := hSw | skip); go_simp; (try with_reducible rfl); done); (try simp only [Act.put, List.setIfInBounds_toArray, List.set_cons_zero, List.set_cons_succ]))
      obtain ⟨⟨f0, f1, f2, f3, f4, f5, f6, f7, f8⟩, s0, s1, s2, s3, s4, s5, s6, s7, s8⟩ := hQ.facts
      refine wpAnyH_ready (rs := [19]) (by kernel_rfl) (by simp) ?_
      refine AllReadyH.cons (o := ⟨_, _, _, _, _, _⟩) rfl (fun KK hKK => ?_) AllReadyH.nil
      go_simp
      refine hKK.out _ _ (HS.out _ hQ.stored) (fun hHeld2 => ?_)
      clear hKK KK hHeld f0 f1 f2 f3 f4 f5 f6 f7 f8 s0 s1 s2 s3 s4 s5 s6 s7 s8
      have hHeld := hHeld2
      clear hHeld2
      try simp only [Act.put, List.setIfInBounds_toArray, List.set_cons_zero, List.set_cons_succ]
      (refine wpAnyH_take (i := 20) (oi := ⟨_, _, _, _, _, _⟩) (v := ?_) rfl (by kernel_rfl) (by kernel_rfl) (by kernel_rfl) (fun _ _ _ h => h) (Or.inl ⟨by rfl, ?_⟩) (by assumption) ?_; rotate_left; focus (intro wS hSw; (first | obtain ⟨e1, e2, e3, e4, e5⟩ := hSw | skip); go_simp; (try with_reducible rfl); done); (try simp only [Act.put, List.setIfInBounds_toArray, List.set_cons_zero, List.set_cons_succ]))
      refine wpAnyH_done (by kernel_rfl) ?_ _
      refine NoPanic.normal ?_
      have HE := Lib.hid (HBW.out _ hQ.stored)
      clear hHeld hQ
      go_wp2_with fail
      go_ret
      exact ⟨rfl, HE.out⟩
     ·go_simp
      have hQ := hQ.node
      refine hKK.out _ _ (HS.out _ hQ.bel) (fun hHeld2 => ?_)
      clear hKK KK hHeld
      have hHeld := hHeld2
      clear hHeld2
      try simp only [Act.put, List.setIfInBounds_toArray, List.set_cons_zero, List.set_cons_succ]
      obtain ⟨u3, hu⟩ : ∃ z, u2.alloc (.cells #[.int .u8 ti, .slice Ai li ii, .slice Ki mi ni] 33) = z := ⟨_, rfl⟩
      rw [hu] at hHeld hQ ⊢
      clear hu
      obtain ⟨b11, hu⟩ : ∃ z, u2.heap.size = z := ⟨_, rfl⟩
      rw [hu] at hQ ⊢
      clear hu
      refine wpAnyH_ready (rs := [5]) (by kernel_rfl) (by simp) ?_
      refine AllReadyH.cons (o := ⟨_, _, _, _, _, _⟩) rfl (fun KK hKK => ?_) AllReadyH.nil
      obtain ⟨G5, C5, u4, hrun, hQ⟩ := hQ.app5 (c1 := c1) (HL.out _ hQ.bel) HWL.out HM.out h2' hm5
      refine step_run rfl (.tmp 70) (.tmp 72) 31 rfl _ _ _ (by first | rfl | simp [Act.eval, Act.put]) (by first | rfl | simp [Act.eval, Act.put]) hrun (hKK.out _ _ (HS.out _ hQ.bel) (fun hHeld2 => ?_))
      clear hrun
      clear hKK KK hHeld
      have hHeld := hHeld2
      clear hHeld2
      try simp only [Act.put, List.setIfInBounds_toArray, List.set_cons_zero, List.set_cons_succ]
      refine wpAnyH_ready (rs := [12]) (by kernel_rfl) (by simp) ?_
      refine AllReadyH.cons (o := ⟨_, _, _, _, _, _⟩) rfl (fun KK hKK => ?_) AllReadyH.nil
      obtain ⟨G12, C12, u5, hrun, hQ⟩ := hQ.app12 (HNI.out _ hQ.bel) HWL.out HM.out h2' hm5
      refine step_run rfl (.tmp 73) (.tmp 79) 31 rfl _ _ _ (by first | rfl | simp [Act.eval, Act.put]) (by first | rfl | simp [Act.eval, Act.put]) hrun (hKK.out _ _ (HS.out _ hQ.bel) (fun hHeld2 => ?_))
      clear hrun
      clear hKK KK hHeld
      have hHeld := hHeld2
      clear hHeld2
      try simp only [Act.put, List.setIfInBounds_toArray, List.set_cons_zero, List.set_cons_succ]
      (refine wpAnyH_take (i := 13) (oi := ⟨_, _, _, _, _, _⟩) (v := ?_) rfl (by kernel_rfl) (by kernel_rfl) (by kernel_rfl) (fun _ _ _ h => h) (Or.inl ⟨by rfl, ?_⟩) (by assumption) ?_; rotate_left; focus (intro wS hSw; (first | obtain ⟨e1, e2, e3, e4, e5⟩ := hSw | skip); go_simp; (try with_reducible rfl); done); (try simp only [Act.put, List.setIfInBounds_toArray, List.set_cons_zero, List.set_cons_succ]))
      refine wpAnyH_ready (rs := [14]) (by kernel_rfl) (by simp) ?_
      refine AllReadyH.cons (o := ⟨_, _, _, _, _, _⟩) rfl (fun KK hKK => ?_) AllReadyH.nil
      go_simp
      refine (HGET.out _ _ _ hQ.bel (hQ.row _ _ _ _ rfl)).mono ?_
      rintro e u6 ⟨hb, rfl⟩
      dsimp only
      have hQ := hQ.below hb
      clear hb
      refine hKK.out _ _ (HS.out _ hQ.bel) (fun hHeld2 => ?_)
      clear hKK KK hHeld
      have hHeld := hHeld2
      clear hHeld2
      try simp only [Act.put, List.setIfInBounds_toArray, List.set_cons_zero, List.set_cons_succ]
      (refine wpAnyH_take (i := 15) (oi := ⟨_, _, _, _, _, _⟩) (v := ?_) rfl (by kernel_rfl) (by kernel_rfl) (by kernel_rfl) (fun _ _ _ h => h) (Or.inl ⟨by rfl, ?_⟩) (by assumption) ?_; rotate_left; focus (intro wS hSw; (first | obtain ⟨e1, e2, e3, e4, e5⟩ := hSw | skip); go_simp; (try with_reducible rfl); done); (try simp only [Act.put, List.setIfInBounds_toArray, List.set_cons_zero, List.set_cons_succ]))
      (refine wpAnyH_take (i := 16) (oi := ⟨_, _, _, _, _, _⟩) (v := ?_) rfl (by kernel_rfl) (by kernel_rfl) (by kernel_rfl) (fun _ _ _ h => h) (Or.inl ⟨by rfl, ?_⟩) (by assumption) ?_; rotate_left; focus (intro wS hSw; (first | obtain ⟨e1, e2, e3, e4, e5⟩ := hSw | skip); go_simp; (try with_reducible rfl); done); (try simp only [Act.put, List.setIfInBounds_toArray, List.set_cons_zero, List.set_cons_succ]))
      (refine wpAnyH_take (i := 17) (oi := ⟨_, _, _, _, _, _⟩) (v := ?_) rfl (by kernel_rfl) (by kernel_rfl) (by kernel_rfl) (fun _ _ _ h => h) (Or.inl ⟨by rfl, ?_⟩) (by assumption) ?_; rotate_left; focus (intro wS hSw; (first | obtain ⟨e1, e2, e3, e4, e5⟩ := hSw | skip); go_simp; (try with_reducible rfl); done); (try simp only [Act.put, List.setIfInBounds_toArray, List.set_cons_zero, List.set_cons_succ]))
      obtain ⟨⟨f0, f1, f2, f3, f4, f5, f6, f7, f8⟩, s0, s1, s2, s3, s4, s5, s6, s7, s8⟩ := hQ.facts
      refine wpAnyH_ready (rs := [19]) (by kernel_rfl) (by simp) ?_
      refine AllReadyH.cons (o := ⟨_, _, _, _, _, _⟩) rfl (fun KK hKK => ?_) AllReadyH.nil
      go_simp
      refine hKK.out _ _ (HS.out _ hQ.stored) (fun hHeld2 => ?_)
      clear hKK KK hHeld f0 f1 f2 f3 f4 f5 f6 f7 f8 s0 s1 s2 s3 s4 s5 s6 s7 s8
      have hHeld := hHeld2
      clear hHeld2
      try simp only [Act.put, List.setIfInBounds_toArray, List.set_cons_zero, List.set_cons_succ]
      (refine wpAnyH_take (i := 20) (oi := ⟨_, _, _, _, _, _⟩) (v := ?_) rfl (by kernel_rfl) (by kernel_rfl) (by kernel_rfl) (fun _ _ _ h => h) (Or.inl ⟨by rfl, ?_⟩) (by assumption) ?_; rotate_left; focus (intro wS hSw; (first | obtain ⟨e1, e2, e3, e4, e5⟩ := hSw | skip); go_simp; (try with_reducible rfl); done); (try simp only [Act.put, List.setIfInBounds_toArray, List.set_cons_zero, List.set_cons_succ]))
      refine wpAnyH_done (by kernel_rfl) ?_ _
      refine NoPanic.normal ?_
      have HE := Lib.hid (HBW.out _ hQ.stored)
      clear hHeld hQ
      go_wp2_with fail
      go_ret
      exact ⟨rfl, HE.out⟩
    ·go_simp
     have hQ := hQ.node
     refine hKK.out _ _ (HS.out _ hQ.bel) (fun hHeld2 => ?_)
     clear hKK KK hHeld
     have hHeld := hHeld2
     clear hHeld2
     try simp only [Act.put, List.setIfInBounds_toArray, List.set_cons_zero, List.set_cons_succ]
     obtain ⟨u2, hu⟩ : ∃ z, u1.alloc (.cells #[.int .u8 ti, .slice Ai li ii, .slice Ki mi ni] 33) = z := ⟨_, rfl⟩
     rw [hu] at hHeld hQ ⊢
     clear hu
     obtain ⟨b11, hu⟩ : ∃ z, u1.heap.size = z := ⟨_, rfl⟩
     rw [hu] at hQ ⊢
     clear hu
     refine wpAnyH_ready (rs := [2]) (by kernel_rfl) (by simp) ?_
     refine AllReadyH.cons (o := ⟨_, _, _, _, _, _⟩) rfl (fun KK hKK => ?_) AllReadyH.nil
     go_simp
     have hQ := hQ.empty
     refine hKK.out _ _ (HS.out _ hQ.bel) (fun hHeld2 => ?_)
     clear hKK KK hHeld
     have hHeld := hHeld2
     clear hHeld2
     try simp only [Act.put, List.setIfInBounds_toArray, List.set_cons_zero, List.set_cons_succ]
     obtain ⟨u3, hu⟩ : ∃ z, u2.alloc (.cells #[] 33) = z := ⟨_, rfl⟩
     rw [hu] at hHeld hQ ⊢
     clear hu
     obtain ⟨e2, hu⟩ : ∃ z, u2.heap.size = z := ⟨_, rfl⟩
     rw [hu] at hQ ⊢
     clear hu
     refine wpAnyH_ready (rs := [5]) (by kernel_rfl) (by simp) ?_
     refine AllReadyH.cons (o := ⟨_, _, _, _, _, _⟩) rfl (fun KK hKK => ?_) AllReadyH.nil
     obtain ⟨G5, C5, u4, hrun, hQ⟩ := hQ.app5 (c1 := c1) (HL.out _ hQ.bel) HWL.out HM.out h2' hm5
     refine step_run rfl (.tmp 70) (.tmp 72) 31 rfl _ _ _ (by first | rfl | simp [Act.eval, Act.put]) (by first | rfl | simp [Act.eval, Act.put]) hrun (hKK.out _ _ (HS.out _ hQ.bel) (fun hHeld2 => ?_))
     clear hrun
     clear hKK KK hHeld
     have hHeld := hHeld2
     clear hHeld2
     try simp only [Act.put, List.setIfInBounds_toArray, List.set_cons_zero, List.set_cons_succ]
     refine wpAnyH_ready (rs := [12]) (by kernel_rfl) (by simp) ?_
     refine AllReadyH.cons (o := ⟨_, _, _, _, _, _⟩) rfl (fun KK hKK => ?_) AllReadyH.nil
     obtain ⟨G12, C12, u5, hrun, hQ⟩ := hQ.app12 (HNI.out _ hQ.bel) HWL.out HM.out h2' hm5
     refine step_run rfl (.tmp 73) (.tmp 79) 31 rfl _ _ _ (by first | rfl | simp [Act.eval, Act.put]) (by first | rfl | simp [Act.eval, Act.put]) hrun (hKK.out _ _ (HS.out _ hQ.bel) (fun hHeld2 => ?_))
     clear hrun
     clear hKK KK hHeld
     have hHeld := hHeld2
     clear hHeld2
     try simp only [Act.put, List.setIfInBounds_toArray, List.set_cons_zero, List.set_cons_succ]
     (refine wpAnyH_take (i := 13) (oi := ⟨_, _, _, _, _, _⟩) (v := ?_) rfl (by kernel_rfl) (by kernel_rfl) (by kernel_rfl) (fun _ _ _ h => h) (Or.inl ⟨by rfl, ?_⟩) (by assumption) ?_; rotate_left; focus (intro wS hSw; (first | obtain ⟨e1, e2, e3, e4, e5⟩ := hSw | skip); go_simp; (try with_reducible rfl); done); (try simp only [Act.put, List.setIfInBounds_toArray, List.set_cons_zero, List.set_cons_succ]))
     refine wpAnyH_ready (rs := [14]) (by kernel_rfl) (by simp) ?_
     refine AllReadyH.cons (o := ⟨_, _, _, _, _, _⟩) rfl (fun KK hKK => ?_) AllReadyH.nil
     go_simp
     refine (HGET.out _ _ _ hQ.bel (hQ.row _ _ _ _ rfl)).mono ?_
     rintro e u6 ⟨hb, rfl⟩
     dsimp only
     have hQ := hQ.below hb
     clear hb
     refine hKK.out _ _ (HS.out _ hQ.bel) (fun hHeld2 => ?_)
     clear hKK KK hHeld
     have hHeld := hHeld2
     clear hHeld2
     try simp only [Act.put, List.setIfInBounds_toArray, List.set_cons_zero, List.set_cons_succ]
     (refine wpAnyH_take (i := 15) (oi := ⟨_, _, _, _, _, _⟩) (v := ?_) rfl (by kernel_rfl) (by kernel_rfl) (by kernel_rfl) (fun _ _ _ h => h) (Or.inl ⟨by rfl, ?_⟩) (by assumption) ?_; rotate_left; focus (intro wS hSw; (first | obtain ⟨e1, e2, e3, e4, e5⟩ := hSw | skip); go_simp; (try with_reducible rfl); done); (try simp only [Act.put, List.setIfInBounds_toArray, List.set_cons_zero, List.set_cons_succ]))
     (refine wpAnyH_take (i := 16) (oi := ⟨_, _, _, _, _, _⟩) (v := ?_) rfl (by kernel_rfl) (by kernel_rfl) (by kernel_rfl) (fun _ _ _ h => h) (Or.inl ⟨by rfl, ?_⟩) (by assumption) ?_; rotate_left; focus (intro wS hSw; (first | obtain ⟨e1, e2, e3, e4, e5⟩ := hSw | skip); go_simp; (try with_reducible rfl); done); (try simp only [Act.put, List.setIfInBounds_toArray, List.set_cons_zero, List.set_cons_succ]))
     (refine wpAnyH_take (i := 17) (oi := ⟨_, _, _, _, _, _⟩) (v := ?_) rfl (by kernel_rfl) (by kernel_rfl) (by kernel_rfl) (fun _ _ _ h => h) (Or.inl ⟨by rfl, ?_⟩) (by assumption) ?_; rotate_left; focus (intro wS hSw; (first | obtain ⟨e1, e2, e3, e4, e5⟩ := hSw | skip); go_simp; (try with_reducible rfl); done); (try simp only [Act.put, List.setIfInBounds_toArray, List.set_cons_zero, List.set_cons_succ]))
     obtain ⟨⟨f0, f1, f2, f3, f4, f5, f6, f7, f8⟩, s0, s1, s2, s3, s4, s5, s6, s7, s8⟩ := hQ.facts
     refine wpAnyH_ready (rs := [19]) (by kernel_rfl) (by simp) ?_
     refine AllReadyH.cons (o := ⟨_, _, _, _, _, _⟩) rfl (fun KK hKK => ?_) AllReadyH.nil
     go_simp
     refine hKK.out _ _ (HS.out _ hQ.stored) (fun hHeld2 => ?_)
     clear hKK KK hHeld f0 f1 f2 f3 f4 f5 f6 f7 f8 s0 s1 s2 s3 s4 s5 s6 s7 s8
     have hHeld := hHeld2
     clear hHeld2
     try simp only [Act.put, List.setIfInBounds_toArray, List.set_cons_zero, List.set_cons_succ]
     (refine wpAnyH_take (i := 20) (oi := ⟨_, _, _, _, _, _⟩) (v := ?_) rfl (by kernel_rfl) (by kernel_rfl) (by kernel_rfl) (fun _ _ _ h => h) (Or.inl ⟨by rfl, ?_⟩) (by assumption) ?_; rotate_left; focus (intro wS hSw; (first | obtain ⟨e1, e2, e3, e4, e5⟩ := hSw | skip); go_simp; (try with_reducible rfl); done); (try simp only [Act.put, List.setIfInBounds_toArray, List.set_cons_zero, List.set_cons_succ]))
     refine wpAnyH_done (by kernel_rfl) ?_ _
     refine NoPanic.normal ?_
     have HE := Lib.hid (HBW.out _ hQ.stored)
     clear hHeld hQ
     go_wp2_with fail
     go_ret
     exact ⟨rfl, HE.out⟩
theorem reads (os : Os) {H : Type} (enc : TypeId × Value → H) : ∃ places, DataW.whole enc Tryz.prog ((txc.laidWorld os).forCall (fun _ _ => 0) ⟨#[], #[.agg #[.bool false, .bool false, .int .i64 0, .int .u16 0, .slice none 0 0, .slice none 0 0, .slice none 0 0, .slice none 0 0, .slice none 0 0], .int .u8 0], []⟩).memory Tryz.f6.params.toList Rows.extsTurnedSpec.vars false (#[.agg #[.bool false, .bool false, .int .i64 0, .int .u16 0, .slice none 0 0, .slice none 0 0, .slice none 0 0, .slice none 0 0, .slice none 0 0], .int .u8 0] : Array Value).toList 8 = some ([.agg [.lit (.bool false), .lit (.bool false), .lit (.int .i64 0), .lit (.int .u16 0), .nil, .nil, .nil, .nil, .nil], .lit (.int .u8 0)], [], places) :=
 ⟨[], by kernel_rfl⟩
set_option maxRecDepth 100000 in
theorem lifted (os : Os) (started : os.Started) (H : Type) (enc : TypeId × Value → H) (F : Stop.Interp) :
 ReturnsInHanded {} Tryz.checked os 6 .any ((OpenSpec.ofChange Rows.extsTurnedSpec).preRow enc Tryz.prog Tryz.f6 Rows.extsTurnedRow.domain false Rows.extsTurnedRow.laid) (((OpenSpec.ofChange Rows.extsTurnedSpec).at F).post enc Tryz.prog Tryz.f6 false true false false) := by
 obtain ⟨places, hx⟩ := reads os enc
 refine returnsInHanded_of_row (C := Tryz.checked) (s := (OpenSpec.ofChange Rows.extsTurnedSpec)) own started (by kernel_rfl) Tryz.func6
  (witness_row_at (enc := enc) (C := Tryz.checked) false (txc.laidWorld os) #[.agg #[.bool false, .bool false, .int .i64 0, .int .u16 0, .slice none 0 0, .slice none 0 0, .slice none 0 0, .slice none 0 0, .slice none 0 0], .int .u8 0] rfl (by kernel_rfl) (by kernel_rfl) (by kernel_rfl)
    (OpenSpec.preRow_of_cond 8 hx (by kernel_rfl) (fun k hk => by cases hk) (by kernel_rfl) (txc.laid_met os _))) ?_
 intro W base args ds gs before hval0 hW hcnd hcond hsz0 hL _ _
 have hval : ∀ (j : Nat) t v, Tryz.f6.params[j]? = some t → args[j]? = some v → Value.okWide Tryz.prog W .any base t v := hval0
 have hW' := hW
 obtain ⟨p, q, hA0, hV, rfl, hfz, hnd⟩ := hW
 have hA : DataW.TrodAll enc Tryz.prog W 0 (fun _ => true) true Tryz.f6.params.toList args.toList ds p := hA0
 have hsz : (DataW.weightsEach Tryz.prog (Tryz.f6.params.toList ++ (OpenSpec.ofChange Rows.extsTurnedSpec).bare.plain.varTypes Tryz.prog) (ds ++ gs)).all (· ≤ reachBytes) = true := hsz0
 rw [Tryz.params6] at hA hval hsz
 obtain ⟨v0, vs0, d0, ds0, p0, q0, hargs, rfl, rfl, h0, r_0⟩ := trodAll_cons hA
 obtain ⟨v1, vs1, d1, ds1, p1, q1, rfl, rfl, rfl, h1, r_1⟩ := trodAll_cons r_0
 obtain ⟨rfl, rfl, rfl⟩ := trodAll_nil r_1
 obtain rfl : args = #[v0, v1] := by cases args; simp_all
 obtain ⟨rfl, rfl⟩ := trodVars_none hV
 have k0 := h0
 have lt0 : ∀ x ∈ p0, x.block < W.heap.size := by obtain ⟨m, hm⟩ := k0; exact DataW.trod_lt m _ _ _ hm
 obtain ⟨cl0, x0, rfl, cn0, s0, w0, z0⟩ := dtc.open_agg (l := [.bool, .bool, .int .i64, .int .u16, .row (.row (.int .i64)), .row (.agg [.str, .row (.str)]), .row (.row (.agg [.row (.int .i64), .str])), .row (.row (.agg [.row (.int .i64), .str])), .row (.agg [.row (.int .i64), .bool, .bys])]) Tryz.underlying28 (dtc.fit_agg Tryz.underlying28 (by kernel_rfl) (dtc.fits_cons (by kernel_rfl) (dtc.fit_bool Tryz.underlying4 (by kernel_rfl)) (dtc.fits_cons (by kernel_rfl) (dtc.fit_bool Tryz.underlying4 (by kernel_rfl)) (dtc.fits_cons (by kernel_rfl) (dtc.fit_int Tryz.underlying3 (by kernel_rfl)) (dtc.fits_cons (by kernel_rfl) (dtc.fit_int Tryz.underlying22 (by kernel_rfl)) (dtc.fits_cons (by kernel_rfl) (dtc.fit_row Tryz.underlying23 (dtc.fit_row Tryz.underlying51 (dtc.fit_int Tryz.underlying3 (by kernel_rfl)) (by kernel_rfl) (by kernel_rfl)) (by kernel_rfl) (by kernel_rfl)) (dtc.fits_cons (by kernel_rfl) (dtc.fit_row Tryz.underlying24 (dtc.fit_agg Tryz.underlying76 (by kernel_rfl) (dtc.fits_cons (by kernel_rfl) (dtc.fit_str Tryz.underlying9 (by kernel_rfl)) (dtc.fits_cons (by kernel_rfl) (dtc.fit_row Tryz.underlying74 (dtc.fit_str Tryz.underlying9 (by kernel_rfl)) (by kernel_rfl) (by kernel_rfl)) dtc.fits_nil))) (by kernel_rfl) (by kernel_rfl)) (dtc.fits_cons (by kernel_rfl) (dtc.fit_row Tryz.underlying25 (dtc.fit_row Tryz.underlying79 (dtc.fit_agg Tryz.underlying141 (by kernel_rfl) (dtc.fits_cons (by kernel_rfl) (dtc.fit_row Tryz.underlying51 (dtc.fit_int Tryz.underlying3 (by kernel_rfl)) (by kernel_rfl) (by kernel_rfl)) (dtc.fits_cons (by kernel_rfl) (dtc.fit_str Tryz.underlying9 (by kernel_rfl)) dtc.fits_nil))) (by kernel_rfl) (by kernel_rfl)) (by kernel_rfl) (by kernel_rfl)) (dtc.fits_cons (by kernel_rfl) (dtc.fit_row Tryz.underlying25 (dtc.fit_row Tryz.underlying79 (dtc.fit_agg Tryz.underlying141 (by kernel_rfl) (dtc.fits_cons (by kernel_rfl) (dtc.fit_row Tryz.underlying51 (dtc.fit_int Tryz.underlying3 (by kernel_rfl)) (by kernel_rfl) (by kernel_rfl)) (dtc.fits_cons (by kernel_rfl) (dtc.fit_str Tryz.underlying9 (by kernel_rfl)) dtc.fits_nil))) (by kernel_rfl) (by kernel_rfl)) (by kernel_rfl) (by kernel_rfl)) (dtc.fits_cons (by kernel_rfl) (dtc.fit_row Tryz.underlying26 (dtc.fit_agg Tryz.underlying60 (by kernel_rfl) (dtc.fits_cons (by kernel_rfl) (dtc.fit_row Tryz.underlying51 (dtc.fit_int Tryz.underlying3 (by kernel_rfl)) (by kernel_rfl) (by kernel_rfl)) (dtc.fits_cons (by kernel_rfl) (dtc.fit_bool Tryz.underlying4 (by kernel_rfl)) (dtc.fits_cons (by kernel_rfl) (dtc.fit_bys Tryz.underlying30 Tryz.underlying5 (by kernel_rfl) (by kernel_rfl) (by kernel_rfl)) dtc.fits_nil)))) (by kernel_rfl) (by kernel_rfl)) dtc.fits_nil)))))))))) (hval 0 28 v0 rfl rfl) h0
 have y0 := z0 (dtc.each_fit hsz (j := 0) rfl rfl)
 have cn0 : cl0.length = 9 := by simpa [dtc.szs, dtc.Sh.sz] using cn0
 obtain ⟨c0_0, c0_1, c0_2, c0_3, c0_4, c0_5, c0_6, c0_7, c0_8, ecl0⟩ := cells9 cn0
 subst ecl0
 obtain ⟨a1, rfl, rfl, rfl, w1⟩ := open_int Tryz.underlying5 (hval 1 5 v1 rfl rfl) h1
 clear hA0 hval0
 have hT : txc.Tabs W := txc.tabs_of hL
 refine (walk x0 c0_0 c0_1 c0_2 c0_3 c0_4 c0_5 c0_6 c0_7 c0_8 a1 W s0 w0 y0 w1 hT).mono fun e W' ⟨he, bel⟩ => ?_
 subst he
 exact ⟨_, rfl, _, _, _, [], _, [], hW', trodAll_mk1 (shut_bool Tryz.underlying4 _), (trodAll_cons_mk (Below.trod laidOut (by kernel_rfl) (of_decide_eq_true (by kernel_rfl)) k0 bel lt0) (trodAll_cons_mk (shut_int Tryz.underlying5 w1) trodAll_mk0)), rfl, bel.frame _, fun h => by cases h⟩
theorem over : Rows.extsTurnedRow.holds Tryz.pinned (OpenSpec.ofChange Rows.extsTurnedSpec) :=
 OpenClaim.holds_of_cond 6 Tryz.f6 rfl rfl rfl rfl rfl rfl rfl ⟨rfl, rfl, rfl, rfl, rfl⟩ rfl rfl rfl rfl rfl (by kernel_rfl) Tryz.func6 (by kernel_rfl)
  (of_decide_eq_true (by kernel_rfl)) (by unfold Func.isWrapper; first | (rw [if_pos (by decide +kernel)]; kernel_rfl) | (rw [if_neg (by decide +kernel)]; exact ⟨rfl, rfl⟩))
  (fun os started H enc _ F => by rw [OpenClaim.pre_eq_preRow]; exact lifted os started H enc F)
theorem plain (f : FuncId) (fn : Func) (hf : Tryz.pinned.checked.prog.funcNamed "warder/warderlaw10.ExtsTurned" = some f) (hfn : Tryz.pinned.checked.prog.funcs[f]? = some fn) :
 true = Tryz.pinned.checked.prog.looks [] ∧ ∀ (j : Nat) t, fn.params[j]? = some t → Tryz.pinned.checked.prog.wantsStandIn t = false := by
 obtain rfl : f = 6 := Option.some.inj ((show Tryz.prog.funcNamed "warder/warderlaw10.ExtsTurned" = some 6 by kernel_rfl).symm.trans hf) |>.symm
 obtain rfl : fn = Tryz.f6 := (Option.some.inj (Tryz.func6.symm.trans hfn)).symm
 refine ⟨by kernel_rfl, fun j t ht => ?_⟩
 rw [Tryz.params6] at ht
 match j, ht with
  | 0, ht => obtain rfl : t = 28 := (Option.some.inj ht).symm; exact (show Tryz.prog.wantsStandIn 28 = false by kernel_rfl)
  | 1, ht => obtain rfl : t = 5 := (Option.some.inj ht).symm; exact (show Tryz.prog.wantsStandIn 5 = false by kernel_rfl)
  | j + 2, ht => simp at ht
theorem proved : Rows.ExtsTurnedCardSaid :=
 Claim7.holds_tied_plain_at .later [] _ _ _ _ over (fun _ h => by cases h) (by kernel_rfl) (fun _ h => by cases h) extsTurned_row_tie rfl ⟨rfl, rfl⟩ (by kernel_rfl) rfl plain (by kernel_rfl)
#print axioms proved
end Go.Proofs.YtdcpggodlggjjaaGreatDoor.extsTurned
