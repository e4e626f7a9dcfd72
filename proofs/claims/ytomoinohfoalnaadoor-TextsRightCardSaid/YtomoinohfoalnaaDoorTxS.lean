/- The library's Builder in this program: its check, a byte more, a rune more. -/
import Derived.Test.YtomoinohfoalnaaDoorShelf
import Derived.Test.YtomoinohfoalnaaDoorTxK2
import Derived.BigCall
namespace Go.Proofs.YtomoinohfoalnaaDoor.txc
open Go.RowKit Go.Proofs.YtomoinohfoalnaaDoor.tlvc
set_option linter.unusedVariables false

/-- A builder in block b, with these bytes; B: what lies below was there ahead of the call. -/
def Bld (B b : Nat) (bs : List Value) (w : World) : Prop := Lib.IsBuilderF 54 5 B b bs w
def Bld1 (B b : Nat) (bs : List Value) (w : World) : Prop := Lib.BuilderAtF 54 5 B b (.pointer (some ⟨b, 0, none⟩)) bs w
theorem size45 : (Tryd.prog.info? 54).map (·.size) = some 2 := by kernel_rfl
theorem lies45 : liesAt Tryd.prog Tryd.prog.depth 54 (2 / Tryd.prog.cellsOf 54) 0 54 1 = true := by kernel_rfl
theorem func53 : Tryd.prog.funcs[63]? = some Tryd.f63 := Tryd.func63

set_option maxRecDepth 100000 in
theorem check_fresh (b : Nat) (v : Value) (w : World) (hbk : w.heap[b]? = some (.cells #[.pointer none, v] 54 (0, 0))) :
    Calls Tryd.prog 47 #[.pointer (some ⟨b, 0, none⟩)] w fun e w' => e = .returned (.tuple #[]) ∧ w' = w.setCell ⟨b, 0, none⟩ (.pointer (some ⟨b, 0, none⟩)) := by
  obtain ⟨j, hj, hjs⟩ := Option.map_eq_some_iff.1 size45
  have h0 : w.cell? ⟨b, 0, none⟩ = some (.pointer none) := by rw [Lib.cell_of_heap hbk]; rfl
  have hsh : w.shape? b = some (54, 2) := by simp [World.shape?, hbk]
  have hfz : w.frozen? ⟨b, 0, none⟩ = false := Lib.frozen_of_heap hbk 0
  have hc : (w.setCell ⟨b, 0, none⟩ (.pointer (some ⟨b, 0, none⟩))).cell? ⟨b, 0, none⟩ = some (.pointer (some ⟨b, 0, none⟩)) := by rw [Lib.cell_of_heap (heap_set hbk 0 _)]; rfl
  go_enter Tryd.func47, Tryd.ntmps47
  go_wp2
  rw [Lib.run_to_unsafe w ⟨b, 0, none⟩ Tryd.underlying52 Tryd.underlying99 hj (by rw [hjs]; decide) hsh (Nat.zero_lt_succ 1)]
  simp only [Result.andThen]
  rw [Oper.upon_value]
  go_wp2
  rw [run_callFunc_extern func53 (by kernel_rfl) (by kernel_rfl) (by kernel_rfl) (e := Extern.AbiNoEscape.same) (by kernel_rfl), Lib.run_noEscape]
  simp only [Result.andThen]
  rw [Oper.upon_value]
  go_wp2
  rw [Lib.run_from_unsafe w ⟨b, 0, none⟩ Tryd.underlying99 Tryd.underlying52 hj hsh lies45]
  simp only [Result.andThen]
  rw [Oper.upon_value]
  go_wp2
  go_end0
  exact ⟨rfl, rfl⟩

set_option maxRecDepth 100000 in
theorem check_used (b : Nat) (w : World) (h0 : w.cell? ⟨b, 0, none⟩ = some (.pointer (some ⟨b, 0, none⟩))) :
    Calls Tryd.prog 47 #[.pointer (some ⟨b, 0, none⟩)] w fun e w' => e = .returned (.tuple #[]) ∧ w' = w := by
  obtain ⟨j, hj, _⟩ := Option.map_eq_some_iff.1 size45
  go_enter Tryd.func47, Tryd.ntmps47
  go_wp2
  rw [Lib.run_neq_ptr_same w _ Tryd.underlying52 hj]
  go_wp2
  go_end0
  exact ⟨rfl, rfl⟩

/-- Behind a call on a builder: it holds these bytes, what lay below B is as it was, and so is all but the builder and rows of bytes. -/
def After (B b : Nat) (bs : List Value) (w w' : World) : Prop := Bld1 B b bs w' ∧ Below B w w' ∧ Lib.OthersKept 5 (some b) w w'

theorem check_any {B b : Nat} {bs : List Value} {w : World} (h : Bld B b bs w) :
    Calls Tryd.prog 47 #[.pointer (some ⟨b, 0, none⟩)] w fun e w' => e = .returned (.tuple #[]) ∧ After B b bs w w' := by
  rcases h with h | h
  · have hu := h
    obtain ⟨hB0, v, hbk, _⟩ := hu
    refine (check_fresh b v w hbk).mono fun e w' hh => ?_
    obtain ⟨rfl, rfl⟩ := hh
    exact ⟨rfl, h.used _, (Below.refl B w).setCell (p := ⟨b, 0, none⟩) h.1 _, (Lib.OthersKept.refl _ _ w).setCell ⟨b, 0, none⟩ rfl _⟩
  · refine (check_used b w h.cell0).mono fun e w' hh => ?_
    obtain ⟨rfl, rfl⟩ := hh
    exact ⟨rfl, h, Below.refl B _, Lib.OthersKept.refl _ _ _⟩

theorem Bld1.parts {B b : Nat} {bs : List Value} {w : World} (h : Bld1 B b bs w) : B ≤ b ∧ b < w.heap.size ∧ ∃ A c, w.heap[b]? = some (.cells #[.pointer (some ⟨b, 0, none⟩), .slice A bs.length c] 54 (0, 0)) ∧ w.ownsRowF B 5 1 (.slice A bs.length c) bs.length bs ∧ (Value.slice A bs.length c).ownBlock ≠ some b := by
  have hl := Lib.BuilderAtF.lt h
  obtain ⟨h1, v, h2, h3, h4⟩ := h
  rcases h3.2 with ⟨rfl, h0⟩ | ⟨g, cap, cur, fz, rfl, _⟩
  · rw [h0]; rw [h0] at h3; exact ⟨h1, hl, none, 0, h2, h3, h4⟩
  · exact ⟨h1, hl, _, _, h2, h3, h4⟩

/-- What is stored back when the row has grown. -/
theorem after_put {B b : Nat} {bs xs : List Value} {w w1 w2 : World} {A : Option Addr} {c : Nat} {o : Obj} {v' : Value} (hB : B ≤ b) (hlt : b < w1.heap.size) (hbw : Below B w w1) (hk : Lib.OthersKept 5 (some b) w w1)
    (hbk : w1.heap[b]? = some (.cells #[.pointer (some ⟨b, 0, none⟩), .slice A bs.length c] 54 (0, 0))) (hown : w1.ownsRowF B 5 1 (.slice A bs.length c) bs.length bs) (hne : (Value.slice A bs.length c).ownBlock ≠ some b)
    (hown' : w2.ownsRowF B 5 1 v' (bs.length + xs.length) (bs ++ xs)) (hg : (w1.alloc o).grownBy w2 (Value.slice A bs.length c).ownBlock) (hpos : 0 < xs.length) :
    w2.heap[b]? = some (.cells #[.pointer (some ⟨b, 0, none⟩), .slice A bs.length c] 54 (0, 0)) ∧ After B b (bs ++ xs) w (w2.setCell ⟨b, 1, none⟩ v') ∧ ∃ g c', v' = .slice (some ⟨g, 0, none⟩) (bs.length + xs.length) c' := by
  have hb2 : w2.heap[b]? = some (.cells #[.pointer (some ⟨b, 0, none⟩), .slice A bs.length c] 54 (0, 0)) := by
    rw [hg.block b (by simp; omega) (fun e => hne e.symm), heap_old w1 o hlt]; exact hbk
  refine ⟨hb2, ⟨Lib.BuilderAtF.put (bs' := bs ++ xs) hB hb2 (by rw [List.length_append]; exact hown') (by decide), ?_, ((hk.alloc _).grown hg (Lib.ownsRowF_kind (hown.alloc _))).setCell ⟨b, 1, none⟩ rfl _⟩, ?_⟩
  · exact ((hbw.alloc (Nat.le_trans hB (Nat.le_of_lt hlt)) _).grown hg (by simp; omega) fun k hk => (hown.lt k hk).1).setCell (p := ⟨b, 1, none⟩) hB _
  · rcases hown'.2 with ⟨_, h0⟩ | ⟨g, cap, cur, fz, hv, _⟩
    · omega
    · exact ⟨g, cap, hv⟩

set_option maxRecDepth 100000 in
set_option maxHeartbeats 1000000 in
theorem wbyte_any {B b : Nat} {bs : List Value} {w : World} (x : Int) (h : Bld B b bs w) (hlen : bs.length + 1 ≤ 140737488355328) :
    Calls Tryd.prog 33 #[.pointer (some ⟨b, 0, none⟩), .int .u8 x] w fun e w' => e = .returned .nilIface ∧ After B b (bs ++ [.int .u8 x]) w w' := by
  obtain ⟨i0, hi, hz0, hz1, hz2⟩ := info_parts Tryd.info5
  go_enter Tryd.func33, Tryd.ntmps33
  go_wp2_with fail
  refine (check_any h).mono ?_
  rintro e w1 ⟨rfl, h1, hb1, hk1⟩
  obtain ⟨hB, hlt, A, c, hbk, hown, hne⟩ := h1.parts
  have c0 : w1.cell? ⟨b, 0, none⟩ = some (.pointer (some ⟨b, 0, none⟩)) := by rw [Lib.cell_of_heap hbk]; rfl
  have c1 : w1.cell? ⟨b, 1, none⟩ = some (.slice A bs.length c) := by rw [Lib.cell_of_heap hbk]; rfl
  have hnew : ∀ j u, [Value.int .u8 x][j]? = some u → (w1.alloc (.cells #[.int .u8 x] 5)).cell? ((⟨w1.heap.size, 0, none⟩ : Addr).add j) = some u := by
    intro j u hj
    match j, hj with
    | 0, hj => simp at hj; subst hj; simp [Addr.add]
  have hfin : ∀ (v' : Value) (w2 : World), w2.ownsRowF B 5 1 v' (bs.length + 1) (bs ++ [.int .u8 x]) → (w1.alloc (.cells #[.int .u8 x] 5)).grownBy w2 (Value.slice A bs.length c).ownBlock → _ :=
    fun v' w2 ho hg => after_put (xs := [.int .u8 x]) hB hlt hb1 hk1 hbk hown hne ho hg (Nat.zero_lt_one)
  have HF := Lib.hid hfin
  clear hfin
  go_wp2_with (at_builtin; refine wpList_append_ownF _ rfl _ _ 22 rfl B 5 i0 (.int .u8 0) 1 1 Tryd.underlying22 hi hz0 hz1 hz2 rfl (by decide) _ _ _ rfl (hown.alloc _) ⟨w1.heap.size, 0, none⟩ 1 1 [.int .u8 x] rfl rfl hnew ?c2 ?c3 ?c4 ?c5 ?_)
  case c2 => intro u hu; simp at hu; subst hu; rfl
  case c3 => unfold maxLen; omega
  case c4 => omega
  case c5 => simp; omega
  intro v' w2 hown' hgrow _
  obtain ⟨hb2, haf, g, c', rfl⟩ := HF.out v' w2 hown' hgrow
  have d0 : w2.cell? ⟨b, 0, none⟩ = some (.pointer (some ⟨b, 0, none⟩)) := by rw [Lib.cell_of_heap hb2]; rfl
  have d1 : w2.cell? ⟨b, 1, none⟩ = some (.slice A bs.length c) := by rw [Lib.cell_of_heap hb2]; rfl
  have f1 : w2.frozen? ⟨b, 1, none⟩ = false := Lib.frozen_of_heap hb2 1
  go_wp2
  go_ret
  exact ⟨rfl, haf⟩

set_option maxRecDepth 100000 in
set_option maxHeartbeats 1000000 in
theorem wrune_any {B b : Nat} {bs : List Value} {w : World} (r : Int) (hr0 : -2147483648 ≤ r) (hr1 : r ≤ 2147483647) (h : Bld B b bs w) (hlen : bs.length + 4 ≤ 140737488355328) :
    Calls Tryd.prog 34 #[.pointer (some ⟨b, 0, none⟩), .int .i32 r] w fun e w' => (∃ n, e = .returned (.tuple #[.int .i64 n, .nilIface])) ∧ After B b (bs ++ Lib.runeCells r) w w' := by
  have hl4 := Lib.runeCells_le r
  go_enter Tryd.func34, Tryd.ntmps34
  go_wp2_with fail
  refine (check_any h).mono ?_
  rintro e w1 ⟨rfl, h1, hb1, hk1⟩
  obtain ⟨hB, hlt, A, c, hbk, hown, hne⟩ := h1.parts
  have c0 : w1.cell? ⟨b, 0, none⟩ = some (.pointer (some ⟨b, 0, none⟩)) := by rw [Lib.cell_of_heap hbk]; rfl
  have c1 : w1.cell? ⟨b, 1, none⟩ = some (.slice A bs.length c) := by rw [Lib.cell_of_heap hbk]; rfl
  have hap := Any.utf8_AppendRune_own Tryd.lays242 Tryd.Builder_Extra_242 B _ bs.length bs r hr0 hr1 w1 hown hlen (by omega)
  have HA : Calls Tryd.prog 48 #[.slice A bs.length c, .int .i32 r] w1 _ := hap
  go_wp2_with fail
  refine HA.mono ?_
  rintro e w2 ⟨v', rfl, hown', o, hgrow⟩
  obtain ⟨hb2, haf, g, c', rfl⟩ := after_put (xs := Lib.runeCells r) hB hlt hb1 hk1 hbk hown hne hown' hgrow (by omega)
  have d0 : w2.cell? ⟨b, 0, none⟩ = some (.pointer (some ⟨b, 0, none⟩)) := by rw [Lib.cell_of_heap hb2]; rfl
  have d1 : w2.cell? ⟨b, 1, none⟩ = some (.slice A bs.length c) := by rw [Lib.cell_of_heap hb2]; rfl
  have f1 : w2.frozen? ⟨b, 1, none⟩ = false := Lib.frozen_of_heap hb2 1
  clear hap HA c0 c1 hbk hown hne hgrow hown'
  go_wp2
  go_ret2
  exact ⟨⟨_, rfl⟩, haf⟩

theorem blen_any {B b : Nat} {bs : List Value} {w : World} (h : Bld B b bs w) : Calls Tryd.prog 32 #[.pointer (some ⟨b, 0, none⟩)] w fun e w' => e = .returned (.int .i64 bs.length) ∧ w' = w :=
  Any.Builder_Len_f Tryd.lays170 B b bs w h
theorem bstr_any {B b : Nat} {l : List UInt8} {w : World} (h : Bld B b (Lib.byteCells l) w) (hB : B ≤ w.heap.size) : Calls Tryd.prog 35 #[.pointer (some ⟨b, 0, none⟩)] w fun e w' => e = .returned (.string ⟨l.toArray⟩) ∧ Below B w w' :=
  (Any.Builder_String_any_k Tryd.lays169 Tryd.Builder_Extra_169 B b l w h hB).mono fun e w' hh => ⟨hh.1, hh.2.2.1⟩
end Go.Proofs.YtomoinohfoalnaaDoor.txc
