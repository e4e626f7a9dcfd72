/- What a term is written as: the key. -/
import Derived.Test.YtlhogjigdmpokaaGreatDoorUa
import Derived.Test.YtlhogjigdmpokaaGreatDoorVtTab
import Derived.Test.YtlhogjigdmpokaaGreatDoorShelfA
import Derived.Test.YtlhogjigdmpokaaGreatDoorTf
import Derived.Test.YtlhogjigdmpokaaGreatDoorTc
import Derived.Test.YtlhogjigdmpokaaGreatDoorTa
import Derived.Shelf.Strconv.AppendIntPublic10
import Derived.Deep.RegionLaw
namespace Go.Proofs.YtlhogjigdmpokaaGreatDoor.vtc
open Go.RowKit Go.Proofs.YtlhogjigdmpokaaGreatDoor.tlvc Go.Proofs.YtlhogjigdmpokaaGreatDoor.tmc
set_option linter.unusedVariables false
theorem aint_any (B n : Nat) (i : Int) (hi : I64 i) (v : Value) (xs : List Value) (w : World) (hown : w.ownsRow B 5 1 v n xs) (hB : B ≤ w.heap.size) (hl : n + 21 ≤ 140737488355328) (ht : txc.Tab B w) :
    Calls Tryz.prog 86 #[v, .int .i64 i, .int .i64 10] w fun e w' => ∃ v', e = .returned v' ∧ w'.ownsRow B 5 1 v' (n + (numL i).length) (xs ++ vals (numL i)) ∧ Below B w w' := by
  have h := Any.strconv_AppendInt_10 Tryz.lays176 B n i hi.1 hi.2 v xs w hown hB hl ht
  refine Calls.mono (show Calls Tryz.prog 86 #[v, .int .i64 i, .int .i64 10] w _ from h) ?_
  rintro e w' ⟨v', h1, h2, h3, _⟩
  refine ⟨v', h1, ?_, h3⟩
  rw [cells_numL] at h2
  unfold numL
  rw [List.length_map]
  exact h2
theorem str_at {w : World} {A : Option Addr} {n : Nat} {xs : List Int} (h : Bys w A n xs) (c : Nat) :
    (convert 24 9 (.slice A n c)).run Tryz.prog w = .ok (.string (strOfNums xs)) w :=
  run_str (P := Tryz.prog) 24 5 Tryz.underlying24 Tryz.underlying5 A n c xs h 9 Tryz.underlying9
theorem own_drew {w : World} {base : Nat} {e : TypeId} {size : Nat} {v : Value} {n : Nat} {xs : List Value} (h : w.ownsRow base e size v n xs) : w.drew.ownsRow base e size v n xs := own_below h ((Below.refl _ _).drew)
/-- One byte more. -/
theorem app_one (w : World) (base : Nat) (v : Value) (n : Nat) (cs : List Value) (hown : w.ownsRow base 5 1 v n cs) (b : Int) (hb : 0 ≤ b ∧ b ≤ 255) (hn : n + 1 ≤ 140737488355328) (hbase : base ≤ w.heap.size) :
    ∃ v' w', (Builtin.append_ #[24, 24] 24 #[v, .slice (some ⟨w.heap.size, 0, none⟩) 1 1]).run Tryz.prog (w.alloc (.cells #[.int .u8 b] 5)) = .ok v' w' ∧ w'.ownsRow base 5 1 v' (n + 1) (cs ++ vals [b]) ∧ Below base w w' := by
  have hnew := heap_new_ w (.cells #[.int .u8 b] 5)
  have hby : Bys (w.alloc (.cells #[.int .u8 b] 5)) (some ⟨w.heap.size, 0, none⟩) 1 [b] := ⟨rfl, fun x hx => by rw [List.mem_singleton.1 hx]; omega, fun _ => ⟨w.heap.size, 0, rfl, by simp, fun j hj => by
    obtain rfl : j = 0 := by omega
    rw [Lib.cell_of_heap hnew]
    rfl⟩⟩
  obtain ⟨v', w', h1, h2, h3, _⟩ := app_long (w.alloc (.cells #[.int .u8 b] 5)) base v n cs (own_below hown (below_new _ _)) (some ⟨w.heap.size, 0, none⟩) 1 1 [b] hby (by omega) (by simp; omega)
  exact ⟨v', w', h1, h2, ((below_new w _).mono hbase).grown h3 (by simp; omega) fun j hj => (hown.lt j hj).1⟩
/-- The same, a draw between. -/
theorem app_oned (w : World) (base : Nat) (v : Value) (n : Nat) (cs : List Value) (hown : w.ownsRow base 5 1 v n cs) (b : Int) (hb : 0 ≤ b ∧ b ≤ 255) (hn : n + 1 ≤ 140737488355328) (hbase : base ≤ w.heap.size) :
    ∃ v' w', (Builtin.append_ #[24, 24] 24 #[v, .slice (some ⟨w.heap.size, 0, none⟩) 1 1]).run Tryz.prog (w.alloc (.cells #[.int .u8 b] 5)).drew = .ok v' w' ∧ w'.ownsRow base 5 1 v' (n + 1) (cs ++ vals [b]) ∧ Below base w w' := by
  have hnew := heap_new_ w (.cells #[.int .u8 b] 5)
  have hby : Bys (w.alloc (.cells #[.int .u8 b] 5)) (some ⟨w.heap.size, 0, none⟩) 1 [b] := ⟨rfl, fun x hx => by rw [List.mem_singleton.1 hx]; omega, fun _ => ⟨w.heap.size, 0, rfl, by simp, fun j hj => by
    obtain rfl : j = 0 := by omega
    rw [Lib.cell_of_heap hnew]
    rfl⟩⟩
  obtain ⟨v', w', h1, h2, h3, _⟩ := app_long (w.alloc (.cells #[.int .u8 b] 5)).drew base v n cs (own_drew (own_below hown (below_new _ _))) (some ⟨w.heap.size, 0, none⟩) 1 1 [b] hby (by omega) (by show base ≤ (w.alloc _).heap.size; simp; omega)
  exact ⟨v', w', h1, h2, (((below_new w _).mono hbase).drew).grown h3 (by show base ≤ (w.alloc _).heap.size; simp; omega) fun j hj => (hown.lt j hj).1⟩
set_option maxRecDepth 100000 in
set_option maxHeartbeats 16000000 in
theorem written_any (o m : Int) (ho : I64 o) (hm : I64 m) (A : Option Addr) (la ca : Nat) (d : List Int) (c3 : Value) (K : Option Addr) (n ck : Nat) (ks : List Int) (w : World) (hd : Bys w A la d) (hlc : la ≤ ca) (hcm : ca ≤ maxLen) (hk : Ins w K n ks) (hnc : n ≤ ck) (hck : ck ≤ maxLen) (hn : n ≤ 100000) (hla : la ≤ 140737480000000) (ht : txc.Tab w.heap.size w) (hc3 : ∃ A3 l3 k3, c3 = .slice A3 l3 k3) :
    Calls Tryz.prog 66 #[.agg #[.int .i64 o, .int .i64 m, .slice A la ca, c3], .slice K n ck] w fun e w' => e = .returned (.string (strOfNums (keyF o m ks d))) ∧ Below w.heap.size w w' := by
  obtain ⟨A3, l3, k3, rfl⟩ := hc3
  obtain ⟨W0, hW0⟩ : ∃ x, w.alloc (.cells #[.int .i64 o, .int .i64 m, .slice A la ca, .slice A3 l3 k3] 43) = x := ⟨_, rfl⟩
  have hz0 : W0.heap.size = w.heap.size + 1 := by rw [← hW0]; simp
  have p0 : W0.heap[w.heap.size]? = some (.cells #[.int .i64 o, .int .i64 m, .slice A la ca, .slice A3 l3 k3] 43) := by rw [← hW0]; exact heap_new_ _ _
  have hb0 : Below w.heap.size w W0 := by rw [← hW0]; exact below_new _ _
  have hbox : ∀ W, Below W0.heap.size W0 W → W.cell? ⟨w.heap.size, 0, none⟩ = some (.int .i64 o) ∧ W.cell? ⟨w.heap.size, 1, none⟩ = some (.int .i64 m) ∧ W.cell? ⟨w.heap.size, 2, none⟩ = some (.slice A la ca) := fun W hW => by
    have h := (hW.block w.heap.size (by omega)).trans p0
    exact ⟨(Lib.cell_of_heap h _).trans rfl, (Lib.cell_of_heap h _).trans rfl, (Lib.cell_of_heap h _).trans rfl⟩
  have b00 := (hbox W0 (Below.refl _ _)).1
  have ht0 : txc.Tab W0.heap.size W0 := (ht.on hb0).mono hb0.size
  have hlo := numL_len ho
  have hlm := numL_len hm
  have hkn : ks.length = n := hk.1
  have C1 := Lib.hid (aint_any W0.heap.size 0 o ho (.slice none 0 0) [] W0 (World.ownsRow_nil _ _ _ _) (Nat.le_refl _) (by omega) ht0)
  have HT := Lib.hid ht0
  have HBOX := Lib.hid hbox
  have HD := Lib.hid hd
  have HK := Lib.hid hk
  have HB0 := Lib.hid hb0
  have HZ0 := Lib.hid hz0
  have HL := Lib.hid (And.intro hlo (And.intro hlm hkn))
  have HCAP := Lib.hid (And.intro hlc hcm)
  clear hbox hd hk hb0 hz0 ht0 ht p0 hlo hlm hkn hlc hcm
  go_enter Tryz.func66, Tryz.ntmps66
  go_wp2_with (go_at_call 86; refine C1.out.mono ?_; rintro e w1 ⟨v1, rfl, h1, h2⟩)
  rw [Nat.zero_add, List.nil_append] at h1
  obtain ⟨v2, w2, hrun, h3, h4⟩ := app_oned w1 W0.heap.size v1 _ _ h1 32 (by omega) (by have := HL.out.1; omega) h2.size
  have hb1a : Below W0.heap.size W0 (w1.alloc (.cells #[.int .u8 32] 5)).drew := (h2.alloc h2.size _).drew
  have hb2 : Below W0.heap.size W0 w2 := h2.trans h4
  have x0 := (HBOX.out _ h2).2.1
  have x2 := (HBOX.out _ hb1a).2.1
  have x3 := (HBOX.out _ hb2).2.1
  have C2 := Lib.hid (aint_any W0.heap.size _ m hm v2 _ w2 h3 hb2.size (by have := HL.out.1; omega) (HT.out.on hb2))
  have HB2 := Lib.hid hb2
  clear h1 h2 h3 h4 hb1a hb2
  go_wp2_with fail
  go_region_law (first | (refine step_run rfl (.tmp 11) (.tmp 12) 24 rfl _ _ _ (by simp [Act.eval]) (by simp [Act.eval]) hrun ?_) | (go_simp; go_at_call 86; refine C2.out.mono ?_; rintro e w3 ⟨v3, rfl, h5, h6⟩))
  all_goals
    have h7 : w3.ownsRow W0.heap.size 5 1 v3 (preK o m (ks.take 0)).length (vals (preK o m (ks.take 0))) := by
      rw [List.take_zero, preK_nil]
      have e1 : vals (numL o) ++ vals [32] ++ vals (numL m) = vals (numL o ++ 32 :: numL m) := by rw [← vals_append, ← vals_append]; simp
      have e2 : (numL o).length + 1 + (numL m).length = (numL o ++ 32 :: numL m).length := by simp; omega
      rw [e1, e2] at h5
      exact h5
    have hb3 := HB2.out.trans h6
    have HI0 := Lib.hid (And.intro h7 hb3)
    clear h5 h6 h7 hb3 hrun x0 x2 x3 C2 HB2
    go_wp2_with fail
    go_loopg [5, 7, 19] (n + 1) (fun gk s5 s7 s19 wx => ∃ (i : Nat) (v : Value), s5 = v ∧ s19 = .int .i64 i ∧ i ≤ n ∧ n - i < gk ∧ Hid (wx.ownsRow W0.heap.size 5 1 v (preK o m (ks.take i)).length (vals (preK o m (ks.take i))) ∧ Below W0.heap.size W0 wx))
    case atStart => exact ⟨0, v3, rfl, rfl, by omega, by omega, HI0⟩
    case round =>
      obtain ⟨i, v, hv, rfl, hi, hgk, HI⟩ := hrel
      obtain rfl := hv.symm
      by_cases hlt : i < n
      · have hltz : (i : Int) < (n : Int) := by omega
        obtain ⟨gk', rfl⟩ : ∃ g', gk = g' + 1 := ⟨gk - 1, by omega⟩
        have HN12 := Lib.hid (And.intro (show i + 1 ≤ n from hlt) (show n - (i + 1) < gk' by omega))
        obtain ⟨b, off, rfl, hb, hc⟩ := HK.out.2.2 (by omega)
        have hbw : Below w.heap.size w wr := HB0.out.trans (HI.out.2.mono HB0.out.size)
        have e1 : wr.cell? ⟨b, off + i, none⟩ = some (.int .i64 (ks.getD i 0)) := (hbw.cell (p := ⟨b, off + i, none⟩) hb).trans (hc i hlt)
        have hx := HK.out.2.1.getD i
        have hpl := preK_len (ks := ks.take i) ho hm (HK.out.2.1.take i)
        rw [List.length_take] at hpl
        have hpl2 : (preK o m (ks.take i)).length ≤ 3000000 := by omega
        have hsn : preK o m (ks.take i) ++ 32 :: numL (ks.getD i 0) = preK o m (ks.take (i + 1)) := by
          rw [preK_snoc, List.take_succ_eq_append_getElem (by rw [HL.out.2.2]; exact hlt), List.getD_eq_getElem?_getD, List.getElem?_eq_getElem (by rw [HL.out.2.2]; exact hlt)]
          rfl
        obtain ⟨x, hxe⟩ : ∃ x, ks.getD i 0 = x := ⟨_, rfl⟩
        rw [hxe] at e1 hx hsn
        obtain ⟨v2, w2, hrun2, h3, h4⟩ := app_one wr W0.heap.size v _ _ HI.out.1 32 (by omega) (by omega) HI.out.2.size
        have hb2 : Below W0.heap.size W0 w2 := HI.out.2.trans h4
        have C2 := Lib.hid (aint_any W0.heap.size _ x hx v2 _ w2 h3 hb2.size (by omega) (HT.out.on hb2))
        have HB2 := Lib.hid hb2
        have HS := Lib.hid hsn
        clear hsn hb2 h3 h4 hbw hc hxe hpl hpl2 HI hgk hx
        go_wp2_with (first | (at_builtin; refine wpl_append rfl (.tmp 23) (.tmp 24) 24 rfl _ _ _ rfl rfl hrun2 ?_) | (go_at_call 86; refine C2.out.mono ?_; rintro e w3 ⟨v3, rfl, h5, h6⟩))
        have h7 : w3.ownsRow W0.heap.size 5 1 v3 (preK o m (ks.take (i + 1))).length (vals (preK o m (ks.take (i + 1)))) := by
          rw [← HS.out]
          have e1 : vals (preK o m (ks.take i)) ++ vals [32] ++ vals (numL x) = vals (preK o m (ks.take i) ++ 32 :: numL x) := by rw [← vals_append, ← vals_append]; simp
          have e2 : (preK o m (ks.take i)).length + 1 + (numL x).length = (preK o m (ks.take i) ++ 32 :: numL x).length := by simp; omega
          rw [e1, e2] at h5
          exact h5
        have HI2 := Lib.hid (And.intro h7 (HB2.out.trans h6))
        clear h5 h6 h7 hrun2 e1 C2 HB2 HS
        go_wp2
        go_roundg gk'
        case measure => omega
        case rel => exact ⟨i + 1, v3, rfl, by go_num, HN12.out.1, HN12.out.2, HI2⟩
      · have hltz : ¬ (i : Int) < (n : Int) := by omega
        obtain rfl : i = n := by omega
        have htk : ks.take i = ks := List.take_of_length_le (by rw [HL.out.2.2]; omega)
        have hI := HI.out
        rw [htk] at hI
        have hpl := preK_len (ks := ks) ho hm HK.out.2.1
        rw [HL.out.2.2] at hpl
        obtain ⟨v2, w2, hrun2, h3, h4⟩ := app_oned wr W0.heap.size v _ _ hI.1 58 (by omega) (by omega) hI.2.size
        have hb1a : Below W0.heap.size W0 (wr.alloc (.cells #[.int .u8 58] 5)).drew := (hI.2.alloc hI.2.size _).drew
        have hb2 : Below W0.heap.size W0 w2 := hI.2.trans h4
        have hd2 := HD.out.below (HB0.out.trans (hb2.mono HB0.out.size))
        obtain ⟨v4, w4, hrun4, h5, h6, h7⟩ := app_long w2 W0.heap.size v2 _ _ h3 A la ca d hd2 (by omega) hb2.size
        have hb4 : Below W0.heap.size W0 w4 := hb2.grown h6 hb2.size fun j hj => (h3.lt j hj).1
        obtain ⟨Af, cf, rfl, hf1, hf2, hf3⟩ := own_shape h5
        have hfin : Bys w4 Af ((preK o m ks).length + 1 + la) (keyF o m ks d) := by
          refine Bys.own (c := cf) (base := W0.heap.size) (e := 5) ?_ (keyF_fit HD.out.2.1)
          have e1 : vals (preK o m ks) ++ vals [58] ++ vals d = vals (keyF o m ks d) := by rw [← vals_append, ← vals_append, ← preK_key]; simp
          rw [← e1]
          exact h5
        have hstr := str_at hfin cf
        have x1 := (HBOX.out _ hb1a).2.2
        have x4 := (HBOX.out _ hI.2).2.2
        have x2 := (HBOX.out _ hb2).2.2
        have x3 := (HBOX.out _ hb4).2.2
        have HB4 := Lib.hid (HB0.out.trans (hb4.mono HB0.out.size))
        clear hb4 hfin hf1 hf2 hf3 h5 h6 h7 hd2 hb2 hb1a h3 h4 hpl hI HI htk hgk
        go_wp2_with fail
        go_region_law (first | (refine step_run rfl (.tmp 29) (.tmp 30) 24 rfl _ _ _ (by simp [Act.eval]) (by simp [Act.eval]) hrun2 ?_) | (refine step_run rfl (.tmp 31) (.tmp 33) 24 rfl _ _ _ (by simp [Act.eval]) (by simp [Act.eval]) hrun4 ?_))
        all_goals
          go_wp2
          go_ret
          exact ⟨rfl, HB4.out⟩
end Go.Proofs.YtlhogjigdmpokaaGreatDoor.vtc
