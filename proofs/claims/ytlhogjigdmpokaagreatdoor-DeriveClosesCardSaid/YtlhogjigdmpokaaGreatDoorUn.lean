/- Are two lists of integers alike: the document's. The document's Mentions. -/
import Derived.Test.YtlhogjigdmpokaaGreatDoorTa
import Derived.Test.YtlhogjigdmpokaaGreatDoorChecked
import Derived.Deep.RegionHeld3
import Derived.Test.YtlhogjigdmpokaaGreatDoorUf
namespace Go.Proofs.YtlhogjigdmpokaaGreatDoor.vtc
open Go.RowKit Go.Proofs.YtlhogjigdmpokaaGreatDoor.tlvc
set_option linter.unusedVariables false
theorem drewN_add (w : World) (q r : Nat) : (w.drewN q).drewN r = w.drewN (q + r) := by
  unfold World.drewN; simp [Nat.add_assoc]
theorem drewN_below (w : World) (q : Nat) : Below w.heap.size w (w.drewN q) := ⟨rfl, rfl, rfl, Nat.le_refl _, fun _ _ => rfl⟩
theorem same_step {xs ys : List Int} {k : Nat} (h : xs.take k = ys.take k) (hx : k < xs.length) (hy : k < ys.length) (he : xs.getD k 0 = ys.getD k 0) : xs.take (k + 1) = ys.take (k + 1) := by
  rw [List.take_succ_eq_append_getElem hx, List.take_succ_eq_append_getElem hy, h]
  simp only [List.getD_eq_getElem?_getD, List.getElem?_eq_getElem hx, List.getElem?_eq_getElem hy, Option.getD_some] at he
  rw [he]
def SameB (w : World) (b : Bool) (e : Ending) (w' : World) : Prop := e = .returned (.bool b) ∧ ∃ q, w' = w.drewN q
set_option maxHeartbeats 400000 in
theorem isame_any (A B : Option Addr) (n c m d : Nat) (xs ys : List Int) (w : World) (hx : Ins w A n xs) (hy : Ins w B m ys) (hm : n ≤ maxLen) :
    Calls Tryz.prog 10 #[.slice A n c, .slice B m d] w (SameB w (decide (xs = ys))) := by
  unfold maxLen at hm
  have hlx := hx.len
  have hly := hy.len
  by_cases hnm : n = m
  · subst hnm
    have HX := Lib.hid hlx
    have HY := Lib.hid hly
    have hcx := Lib.hid hx.2.2
    have hcy := Lib.hid hy.2.2
    obtain ⟨R, hR⟩ : ∃ R, decide (xs = ys) = R := ⟨_, rfl⟩
    have HR := Lib.hid hR
    rw [hR]
    clear hlx hly hR
    go_enter Tryz.func10, Tryz.ntmps10
    go_wp2
    go_loopw [5] (fun x wr => ∃ k : Nat, x = .int .i64 k ∧ k ≤ n ∧ xs.take k = ys.take k ∧ ∃ q, wr = w.drewN q) (fun x _ => n - (intOf x).toNat)
    case atStart => exact ⟨0, rfl, by omega, rfl, 0, rfl⟩
    case round =>
      obtain ⟨k, rfl, hk, he, q, rfl⟩ := hrel
      by_cases hlt : k < n
      · obtain ⟨b, off, rfl, _, hcl⟩ := hcx.out (by omega)
        obtain ⟨b2, off2, rfl, _, hcl2⟩ := hcy.out (by omega)
        have hc1 : ∀ q, (w.drewN q).cell? ⟨b, off + k, none⟩ = some (.int .i64 (xs.getD k 0)) := fun q => hcl k hlt
        have hc2 : ∀ q, (w.drewN q).cell? ⟨b2, off2 + k, none⟩ = some (.int .i64 (ys.getD k 0)) := fun q => hcl2 k hlt
        have hstep := same_step he (by rw [HX.out]; exact hlt) (by rw [HY.out]; exact hlt)
        obtain ⟨x, hxx⟩ : ∃ x, xs.getD k 0 = x := ⟨_, rfl⟩
        obtain ⟨y, hyy⟩ : ∃ y, ys.getD k 0 = y := ⟨_, rfl⟩
        have HE := Lib.hid he
        have HXX := Lib.hid hxx
        have HYY := Lib.hid hyy
        rw [hxx] at hc1
        rw [hyy] at hc2
        rw [hxx, hyy] at hstep
        have HS := Lib.hid hstep
        have hk0 : (k : Int) < n := by omega
        have hk1 : (0 : Int) ≤ k := by omega
        clear hcl hcl2 he hxx hyy hstep
        by_cases hxy : x = y
        · subst hxy
          have hS2 := HS.out rfl
          have HS2 := Lib.hid hS2
          clear HS hS2
          go_wp2
          go_quiet (fail)
          go_wp2
          go_roundw
          case rel => exact ⟨k + 1, by go_num, by omega, HS2.out, _, rfl⟩
          case measure => simp [intOf]; omega
        · have hne : (x != y) = true := by simpa using hxy
          have e : R = false := by
            rw [← HR.out]
            simp only [decide_eq_false_iff_not]
            intro h
            rw [h] at HXX
            exact hxy (HXX.out.symm.trans HYY.out)
          subst e
          clear hxy
          go_wp2
          go_quiet (fail)
          go_wp2
          go_ret
          exact ⟨rfl, _, drewN_add _ _ _⟩
      · have e : R = true := by
          rw [← HR.out]
          simp only [decide_eq_true_eq]
          rwa [List.take_of_length_le (by rw [HX.out]; omega), List.take_of_length_le (by rw [HY.out]; omega)] at he
        subst e
        clear he
        go_wp2
        go_ret
        exact ⟨rfl, _, rfl⟩
  · have e : decide (xs = ys) = false := by
      simp only [decide_eq_false_iff_not]
      intro h
      rw [h] at hlx
      exact hnm (hlx.symm.trans hly)
    have hne : ((n : Int) != m) = true := by simp only [bne_iff_ne, ne_eq]; omega
    have hne2 : (n != m) = true := by simpa using hnm
    rw [e]
    clear e hlx hly hnm
    go_enter Tryz.func10, Tryz.ntmps10
    go_wp2
    go_ret
    exact ⟨rfl, 0, rfl⟩

theorem isame_b (A B : Option Addr) (n c m d : Nat) (xs ys : List Int) (w : World) (hx : Ins w A n xs) (hy : Ins w B m ys) (hm : n ≤ maxLen) :
    Calls Tryz.prog 10 #[.slice A n c, .slice B m d] w fun e w' => e = .returned (.bool (decide (xs = ys))) ∧ Below w.heap.size w w' :=
  (isame_any A B n c m d xs ys w hx hy hm).mono fun e w' ⟨h1, q, h2⟩ => ⟨h1, by rw [h2]; exact drewN_below w q⟩
end Go.Proofs.YtlhogjigdmpokaaGreatDoor.vtc
namespace Go.Proofs.YtlhogjigdmpokaaGreatDoor.vtc
open Go.RowKit Go.Proofs.YtlhogjigdmpokaaGreatDoor.tlvc Go.Proofs.YtlhogjigdmpokaaGreatDoor.tmc
set_option linter.unusedVariables false
theorem Ins.upto {w : World} {A : Option Addr} {n : Nat} {xs : List Int} (h : Ins w A n xs) {k : Nat} (hk : k ≤ n) : Ins w A k (xs.take k) := by
  refine ⟨by rw [List.length_take, h.1]; omega, h.2.1.take k, fun hn => ?_⟩
  obtain ⟨b, off, rfl, hb, hcell⟩ := h.2.2 (by omega)
  refine ⟨b, off, rfl, hb, fun j hj => ?_⟩
  rw [hcell j (by omega)]
  simp [List.getD_eq_getElem?_getD, hj]
theorem own_base8 {w : World} {base base' : Nat} {e : TypeId} {size : Nat} {v : Value} {n : Nat} {xs : List Value} (h : w.ownsRow base e size v n xs) (hb : base' ≤ base) : w.ownsRow base' e size v n xs := by
  refine ⟨h.1, ?_⟩
  rcases h.2 with h | ⟨g, cap, cur, h1, h2, rest⟩
  · exact .inl h
  · exact .inr ⟨g, cap, cur, h1, Nat.le_trans hb h2, rest⟩
theorem ins_len (l : List Int) (n : Int) : (insF l n).length ≤ l.length + 1 := by
  unfold insF
  split
  · omega
  · rw [List.length_append, List.length_cons, List.length_take, List.length_drop]; omega
theorem ms_len (b : List Int) (below : Int) : ∀ k, (msF b below k).length ≤ k
  | 0 => Nat.le_refl _
  | k + 1 => by
    have h := ms_len b below k
    unfold msF
    split
    · split
      · exact Nat.le_trans (ins_len _ _) (by omega)
      · omega
    · omega
theorem ms_fit {b : List Int} (hf : Fit b) (below : Int) (k : Nat) : Fit8 (msF b below k) := fun m hm => by
  obtain ⟨_, i, _, h⟩ := (msF_mem b below m k).1 hm
  have := atF_bd hf h
  omega
theorem ms_skip {b : List Int} {below : Int} {i : Nat} (h : ∀ m, atF b i = some m → ¬ m < below) : msF b below (i + 1) = msF b below i := by
  conv => lhs; unfold msF
  cases e : atF b i with
  | none => rfl
  | some m => exact if_neg (h m e)
theorem ms_ins {b : List Int} {below : Int} {i : Nat} {m : Int} (h : atF b i = some m) (hm : m < below) : msF b below (i + 1) = insF (msF b below i) m := by
  conv => lhs; unfold msF
  rw [h]
  exact if_pos hm
theorem atF_num {b : List Int} {i : Nat} {m : Int} (h : atF b i = some m) : numF ((b.drop (i + 2)).take 8) = some m := by
  unfold atF at h
  split at h
  · exact h
  · cases h
theorem insF_had {l : List Int} {n : Int} {p : Nat} (hp : spotF l n l.length = p) (h : p < l.length ∧ l.getD p 0 = n) : insF l n = l := by
  unfold insF
  rw [hp, if_pos h]
theorem insF_new {l : List Int} {n : Int} {p : Nat} (hp : spotF l n l.length = p) (h : ¬ (p < l.length ∧ l.getD p 0 = n)) : insF l n = l.take p ++ n :: l.drop p := by
  unfold insF
  rw [hp, if_neg h]
/-- A number into its place. -/
theorem mins_run (w0 w : World) (A : Option Addr) (l c : Nat) (L : List Int) (n : Int) (p : Nat) (A3 : Option Addr) (cA cC : Nat)
    (hown : w.ownsRow w0.heap.size 3 1 (.slice A l c) l (ivals L)) (hb : Below w0.heap.size w0 w) (hf : Fit8 L) (hn : I64 n) (hp : p ≤ l) (hl : l ≤ 100000) (hA3 : ∀ W, Below w.heap.size w W → Ins W A3 (l - p) (L.drop p)) :
    ∃ v1 w1 v2 w2 A9 c9 w3, (Builtin.append_ #[23, 23] 23 #[.slice (some ⟨w.heap.size, 0, none⟩) 0 0, .slice A p cA]).run Tryz.prog (w.alloc (.cells #[] 3)) = .ok v1 w1 ∧
      (Builtin.append_ #[23, 23] 23 #[v1, .slice (some ⟨w1.heap.size, 0, none⟩) 1 1]).run Tryz.prog (w1.alloc (.cells #[.int .i64 n] 3)) = .ok v2 w2 ∧
      (Builtin.append_ #[23, 23] 23 #[v2, .slice A3 (l - p) cC]).run Tryz.prog w2 = .ok (.slice A9 (l + 1) c9) w3 ∧
      w3.ownsRow w0.heap.size 3 1 (.slice A9 (l + 1) c9) (l + 1) (ivals (L.take p ++ n :: L.drop p)) ∧ Below w0.heap.size w0 w3 := by
  obtain ⟨i0, hi, hz0, hz1, hz2⟩ := info_parts Tryz.infoInt
  have hA : Ins w A l L := Ins.own hown hf
  have hal : Below w.heap.size w (w.alloc (.cells #[] 3)) := below_new _ _
  obtain ⟨v1, w1, r1, o1, g1, _⟩ := run_iapp (P := Tryz.prog) (w.alloc (.cells #[] 3)) w.heap.size 23 23 3 i0 (.int .i64 0) Tryz.underlying23 hi hz0 hz1 hz2 rfl (.slice (some ⟨w.heap.size, 0, none⟩) 0 0) 0 []
    (World.ownsRow_lit (base := w.heap.size) (e := 3) (size := 1) w #[] 0 (Nat.le_refl _) (Nat.zero_le _) rfl) A p cA (L.take p) ((Ins.upto hA hp).below hal) (by omega) (by simp)
  have hb1 : Below w.heap.size w w1 := hal.grown g1 hal.size (fun j hj => by cases hj; exact Nat.le_refl _)
  obtain ⟨v2, w2, r2, o2, g2, _⟩ := app_int w1 w.heap.size v1 (0 + p) _ o1 n hn (by omega) hb1.size
  have hb2 : Below w.heap.size w w2 := hb1.trans (app_int_below o1 hb1.size g2)
  obtain ⟨v3, w3, r3, o3, g3, _⟩ := run_iapp (P := Tryz.prog) w2 w.heap.size 23 23 3 i0 (.int .i64 0) Tryz.underlying23 hi hz0 hz1 hz2 rfl v2 (0 + p + 1) _ o2 A3 (l - p) cC (L.drop p) (hA3 w2 hb2) (by omega) hb2.size
  have hb3 : Below w.heap.size w w3 := hb2.grown g3 hb2.size (fun j hj => (o2.lt j hj).1)
  have e : 0 + p + 1 + (l - p) = l + 1 := by omega
  have e2 : [] ++ ivals (L.take p) ++ ivals [n] ++ ivals (L.drop p) = ivals (L.take p ++ n :: L.drop p) := by simp [ivals]
  rw [e, e2] at o3
  obtain ⟨A9, c9, rfl, _⟩ := own_shape o3
  exact ⟨v1, w1, v2, w2, A9, c9, w3, r1, r2, r3, own_base8 o3 hb.size, hb.trans (hb3.mono hb.size)⟩
set_option maxRecDepth 100000 in
set_option maxHeartbeats 32000000 in
theorem rmentions_any (A : Option Addr) (n c : Nat) (xs : List Int) (below : Int) (w : World) (hb : Bys w A n xs) (hc : n ≤ c) (hm : c ≤ maxLen) (hn : n ≤ 100000) :
    Calls Tryz.prog 19 #[.slice A n c, .int .i64 below] w (InsPost w (mentionsF xs below)) := by
  have hm9 : c ≤ 9223372036854775807 := by unfold maxLen at hm; omega
  have hlen := hb.len
  have HB := Lib.hid hb
  have HL := Lib.hid hlen
  clear hb hlen
  go_enter Tryz.func19, Tryz.ntmps19
  go_wp2_with fail
  go_loopg [5, 6, 7, 8, 9, 10] (n + 1) (fun gk s5 s6 s7 s8 s9 s10 wx => ∃ (i l6 c6 : Nat) (A6 : Option Addr), s5 = .slice A6 l6 c6 ∧ s6 = .int .i64 i ∧ i ≤ n ∧ n - i < gk ∧ (i ≤ n - 9) ∧ Hid ((msF xs below i).length = l6 ∧ wx.ownsRow w.heap.size 3 1 (.slice A6 l6 c6) l6 (ivals (msF xs below i)) ∧ Below w.heap.size w wx))
  case atStart => exact ⟨0, 0, 0, none, rfl, rfl, by omega, by omega, by omega, Lib.hid ⟨rfl, World.ownsRow_nil _ _ _ _, Below.refl _ _⟩⟩
  case round =>
    obtain ⟨i, l, c6, A6, rfl, rfl, hi, hgk, hi9, HI⟩ := hrel
    obtain ⟨wo, hwo⟩ : ∃ x, x = wr := ⟨_, rfl⟩
    subst hwo
    have hw10 : IntKind.i64.wrap ((i : Int) + 10) = (i : Int) + 10 := IntWalk.i64_in _ (by omega)
    have hw1 : IntKind.i64.wrap ((i : Int) + 1) = (i : Int) + 1 := IntWalk.i64_in _ (by omega)
    have hw2 : IntKind.i64.wrap ((i : Int) + 2) = (i : Int) + 2 := IntWalk.i64_in _ (by omega)
    by_cases hlt : i + 10 ≤ n
    · have hltz : (i : Int) + 10 ≤ (n : Int) := by omega
      obtain ⟨gk', rfl⟩ : ∃ g', gk = g' + 1 := ⟨gk - 1, by omega⟩
      have HN := Lib.hid (And.intro (show i + 1 ≤ n by omega) (And.intro (show n - (i + 1) < gk' by omega) (show i + 1 ≤ n - 9 by omega)))
      obtain ⟨b, off, rfl, hbl, hcell⟩ := HB.out.2.2 (by omega)
      have hbs := HB.out.below HI.out.2.2
      have e0 : wo.cell? ⟨b, off + i, none⟩ = some (.int .u8 (xs.getD i 0)) := (HI.out.2.2.cell (p := ⟨b, off + i, none⟩) hbl).trans (hcell i (by omega))
      have e1 : wo.cell? ⟨b, off + (i + 1), none⟩ = some (.int .u8 (xs.getD (i + 1) 0)) := (HI.out.2.2.cell (p := ⟨b, off + (i + 1), none⟩) hbl).trans (hcell (i + 1) (by omega))
      have b0 : (i : Int) < (n : Int) := by omega
      have b1 : (i : Int) + 1 < (n : Int) := by omega
      have b0n : i < n := by omega
      have b1n : i + 1 < n := by omega
      have hlo : (i : Int) + 2 ≤ (i : Int) + 10 := by omega
      have hhi : (i : Int) + 10 ≤ (c : Int) := by omega
      have hlon : i + 2 ≤ i + 10 := by omega
      have hhin : i + 10 ≤ c := by omega
      have hsub : Bys wo (some ⟨b, off + (i + 2), none⟩) 8 ((xs.drop (i + 2)).take 8) := by
        have h1 := (hbs.cut (k := i + 2) (cap := c) (by omega) hc).upto (k := 8) (by omega)
        rw [if_neg (by omega)] at h1
        simpa [Addr.add_lit] using h1
      have hnum := rnumber_any _ 8 (c - (i + 2)) _ wo hsub (by omega) (by omega)
      have hbd : ∀ m, numF ((xs.drop (i + 2)).take 8) = some m → 0 ≤ m ∧ m < 281474976710656 := fun m h => (num_some hsub.2.1 h).1
      obtain ⟨x0, hx0⟩ : ∃ x, xs.getD i 0 = x := ⟨_, rfl⟩
      obtain ⟨x1, hx1⟩ : ∃ x, xs.getD (i + 1) 0 = x := ⟨_, rfl⟩
      obtain ⟨r, hr⟩ : ∃ r, numF ((xs.drop (i + 2)).take 8) = r := ⟨_, rfl⟩
      rw [hx0] at e0
      rw [hx1] at e1
      rw [hr] at hnum hbd
      have HNUM := Lib.hid hnum
      have HBS := Lib.hid hbs
      clear hbs hcell hgk hi9 hsub hnum
      cases r with
      | none =>
        have hs : msF xs below (i + 1) = msF xs below i := ms_skip fun m h => by rw [atF_num h] at hr; cases hr
        have HI2 := HI.out
        rw [← hs] at HI2
        have HI3 := Lib.hid HI2
        clear hs HI2 HI hr hbd hx0 hx1
        go_wp2_with (go_at_call 39; refine HNUM.out.mono ?_; rintro e w1 ⟨rfl, rfl⟩)
        go_wp2
        go_roundg gk'
        case measure => omega
        case rel => exact ⟨i + 1, l, c6, A6, rfl, by go_num, HN.out.1, HN.out.2.1, HN.out.2.2, HI3⟩
      | some m =>
        obtain ⟨hm0, hm1⟩ := hbd m rfl
        by_cases hall : m < below ∧ x0 = 4 ∧ x1 = 8
        · obtain ⟨hmb, h4, h8⟩ := hall
          subst h4 h8
          have hat : atF xs i = some m := (atF_yes (b := xs) (i := i) (by rw [HL.out]; exact hlt) hx0 hx1).trans hr
          have hins := ms_ins hat hmb
          have hbz : ¬ below ≤ m := by omega
          have hfit := ms_fit HB.out.2.1 below i
          have hll := ms_len xs below i
          have hI := HI.out
          obtain ⟨L, hLe⟩ : ∃ x, msF xs below i = x := ⟨_, rfl⟩
          rw [hLe] at hI hins hfit hll
          have hI1 := hI.1
          have hl5 : l ≤ 100000 := by omega
          have hIns : Ins wo A6 l L := Ins.own hI.2.1 hfit
          have HOWN := Lib.hid hI
          have HINS := Lib.hid hins
          have HFIT := Lib.hid hfit
          have HI1 := Lib.hid hIns
          have HLN := Lib.hid hI1
          clear hat hins hfit hI HI hr hbd hx0 hx1 hLe hIns hll hI1
          go_wp2_with (go_at_call 39; refine HNUM.out.mono ?_; rintro e w1 ⟨rfl, rfl⟩)
          go_loopg [9] (l + 1) (fun gk s9 wx => ∃ (j : Nat), s9 = .int .i64 j ∧ j ≤ l ∧ j < gk ∧ wx = w1 ∧ Hid (spotF L m j = spotF L m l))
          case atStart => exact ⟨l, rfl, Nat.le_refl _, by omega, rfl, Lib.hid rfl⟩
          case round =>
            obtain ⟨j, rfl, hj, hgj, hwe, HJ⟩ := hrel
            obtain rfl := hwe.symm
            by_cases hgo : ∃ k, j = k + 1 ∧ m ≤ L.getD k 0
            · obtain ⟨k, rfl, hmk⟩ := hgo
              obtain ⟨gj', rfl⟩ : ∃ g', gk = g' + 1 := ⟨gk - 1, by omega⟩
              have hnx : spotF L m k = spotF L m l := by
                rw [← HJ.out]
                conv => rhs; unfold spotF
                rw [if_pos hmk]
              have HNX := Lib.hid hnx
              obtain ⟨g, o6, rfl, _, hck⟩ := HI1.out.2.2 (by omega)
              have f0 := hck k (by omega)
              have hk1 : IntKind.i64.wrap (((k + 1 : Nat) : Int) - 1) = (k : Int) := by rw [IntWalk.i64_in _ (by omega)]; omega
              have hk2 : IntKind.i64.wrap (k : Int) = (k : Int) := IntWalk.i64_in _ (by omega)
              have hk3 : (0 : Int) < (k : Int) + 1 := by omega
              have hk4 : (k : Int) < (l : Int) := by omega
              have hk5 : (0 : Int) ≤ (k : Int) := by omega
              have hk6 : k < l := by omega
              obtain ⟨x, hx⟩ : ∃ x, L.getD k 0 = x := ⟨_, rfl⟩
              rw [hx] at f0 hmk
              clear hck hnx hx HJ
              go_wp2
              go_roundg gj'
              case measure => omega
              case rel => exact ⟨k, by go_num, by omega, by omega, rfl, HNX⟩
            · have hp : spotF L m l = j := by
                rw [← HJ.out]
                cases j with
                | zero => rfl
                | succ k =>
                  conv => lhs; unfold spotF
                  rw [if_neg fun h => hgo ⟨k, rfl, h⟩]
              rw [← HLN.out] at hp
              by_cases hhad : j < L.length ∧ L.getD j 0 = m
              · have hs := insF_had hp hhad
                rw [HLN.out] at hhad
                have HI3 : Hid ((msF xs below (i + 1)).length = l ∧ w1.ownsRow w.heap.size 3 1 (.slice A6 l c6) l (ivals (msF xs below (i + 1))) ∧ Below w.heap.size w w1) := by
                  rw [HINS.out, hs]; exact HOWN
                obtain ⟨g, o6, rfl, _, hck⟩ := HI1.out.2.2 (by omega)
                have f0 := hck j hhad.1
                rw [hhad.2] at f0
                have hjl := hhad.1
                have hjz : (j : Int) < (l : Int) := by omega
                have hjzd : decide ((j : Int) < (l : Int)) = true := decide_eq_true hjz
                have hfe : ∀ k, j = k + 1 → w1.cell? ⟨g, o6 + k, none⟩ = some (.int .i64 (L.getD k 0)) ∧ ¬ m ≤ L.getD k 0 := fun k hk => ⟨hck k (by omega), fun h => hgo ⟨k, hk, h⟩⟩
                clear hs hp hhad hck hgo
                cases j with
                | zero =>
                  clear hfe
                  rw [Nat.add_zero] at f0
                  have hg0 : decide ((0 : Int) < 0) = false := rfl
                  go_wp2
                  go_roundg gk'
                  case measure => omega
                  case rel => exact ⟨i + 1, l, c6, _, rfl, by go_num, HN.out.1, HN.out.2.1, HN.out.2.2, HI3⟩
                | succ k =>
                  obtain ⟨f1, hk0⟩ := hfe k rfl
                  obtain ⟨x, hx⟩ : ∃ x, L.getD k 0 = x := ⟨_, rfl⟩
                  rw [hx] at f1 hk0
                  have hk1 : IntKind.i64.wrap (((k + 1 : Nat) : Int) - 1) = (k : Int) := by rw [IntWalk.i64_in _ (by omega)]; omega
                  have hk2 : IntKind.i64.wrap (k : Int) = (k : Int) := IntWalk.i64_in _ (by omega)
                  have hk3 : (0 : Int) < (k : Int) + 1 := by omega
                  have hk4 : (k : Int) < (l : Int) := by omega
                  have hk5 : (0 : Int) ≤ (k : Int) := by omega
                  have hk6 : k < l := by omega
                  clear hx hfe
                  go_wp2
                  go_roundg gk'
                  case measure => omega
                  case rel => exact ⟨i + 1, l, c6, _, rfl, by go_num, HN.out.1, HN.out.2.1, HN.out.2.2, HI3⟩
              · have hs := insF_new hp hhad
                rw [HLN.out] at hhad
                have hfin : ∀ (A9 : Option Addr) (c9 : Nat) (w3 : World), w3.ownsRow w.heap.size 3 1 (.slice A9 (l + 1) c9) (l + 1) (ivals (L.take j ++ m :: L.drop j)) → Below w.heap.size w w3 → (msF xs below (i + 1)).length = l + 1 ∧ w3.ownsRow w.heap.size 3 1 (.slice A9 (l + 1) c9) (l + 1) (ivals (msF xs below (i + 1))) ∧ Below w.heap.size w w3 := fun A9 c9 w3 h1 h2 => by
                  rw [HINS.out, hs]
                  exact ⟨by have := h1.1; rw [ivals_length] at this; omega, h1, h2⟩
                have hrun := fun A3 cA cC hA3 => mins_run w w1 A6 l c6 L m j A3 cA cC HOWN.out.2.1 HOWN.out.2.2 HFIT.out (by unfold I64; omega) (by omega) hl5 hA3
                have HFIN := Lib.hid hfin
                have HRUN := Lib.hid hrun
                have hsh := HOWN.out.2.1.2
                obtain ⟨_, _, e6, hl6, hm6, hA6⟩ := own_shape HOWN.out.2.1
                cases e6
                have hm6' : c6 ≤ 9223372036854775807 := by unfold maxLen at hm6; omega
                have HG := Lib.hid hgo
                have HH := Lib.hid hhad
                clear hfin hrun hs hp hgo hhad
                rcases hsh with ⟨hv, h0⟩ | ⟨g, cap, cur, hv, _, hgl, _⟩
                · simp only [Value.slice.injEq] at hv
                  obtain ⟨rfl, rfl, rfl⟩ := hv
                  obtain rfl : j = 0 := by omega
                  have hcut1 : 0 ≤ 0 := Nat.le_refl 0
                  have hcut2 : 0 ≤ 0 := Nat.le_refl 0
                  have hcne : True := trivial
                  have hg0 : decide ((0 : Int) < 0) = false := rfl
                  obtain ⟨v1, u1, v2, u2, A9, c9, u3, hrun1, hrun2, hrun3, ho3, hb3⟩ := HRUN.out (none) (0) (0) (fun W hW => by
                    have h := ((HI1.out.below hW).cut (k := _) (cap := _) hcut1 hcut2)
                    first | exact h | (simpa [Addr.add_lit] using h) | (rw [if_neg hcne] at h; simpa [Addr.add_lit] using h))
                  have HE := Lib.hid (HFIN.out A9 c9 u3 ho3 hb3)
                  clear ho3 hb3 HRUN HFIN
                  simp only [Nat.zero_add, Nat.sub_self] at hrun1 hrun2 hrun3 HE
                  go_wp2_with (first | (at_builtin; refine wpl_append rfl (.tmp 77) (.tmp 80) 23 rfl _ _ _ rfl rfl hrun1 ?_) | (at_builtin; refine wpl_append rfl (.tmp 82) (.tmp 84) 23 rfl _ _ _ rfl rfl hrun2 ?_) | (at_builtin; refine wpl_append rfl (.tmp 86) (.tmp 89) 23 rfl _ _ _ rfl rfl hrun3 ?_))
                  go_wp2
                  go_roundg gk'
                  case measure => omega
                  case rel => exact ⟨i + 1, _, c9, A9, rfl, by go_num, HN.out.1, HN.out.2.1, HN.out.2.2, HE⟩
                · simp only [Value.slice.injEq, true_and] at hv
                  obtain ⟨rfl, hc6⟩ := hv
                  have hcg : ∀ q, q < l → w1.cell? ⟨g, q, none⟩ = some (.int .i64 (L.getD q 0)) := fun q hq => by
                    obtain ⟨g', o', e', _, hck⟩ := HI1.out.2.2 (by omega)
                    cases e'
                    have := hck q hq
                    rwa [Nat.zero_add] at this
                  have hHH := HH.out
                  clear hc6
                  cases j with
                  | zero =>
                    by_cases hjl : 0 < l
                    · obtain ⟨y, hy⟩ : ∃ y, L.getD 0 0 = y := ⟨_, rfl⟩
                      have hym : ¬ y = m := fun h => hHH ⟨hjl, by rw [hy]; exact h⟩
                      have f0 : w1.cell? ⟨g, 0, none⟩ = some (.int .i64 y) := by rw [← hy]; exact hcg _ hjl
                      have hymb : (y == m) = false := by simpa using hym
                      have hjz : ((0 : Nat) : Int) < (l : Int) := by omega
                      have hjzd : decide (((0 : Nat) : Int) < (l : Int)) = true := decide_eq_true hjz
                      have hcne : ¬ c6 = 0 := by omega
                      have hcut1 : 0 ≤ l := by omega
                      have hcut2 : l ≤ c6 := hl6
                      have hg0 : decide ((0 : Int) < 0) = false := rfl
                      clear hcg hy
                      obtain ⟨v1, u1, v2, u2, A9, c9, u3, hrun1, hrun2, hrun3, ho3, hb3⟩ := HRUN.out (some ⟨g, 0, none⟩) (c6) (c6) (fun W hW => by
                        have h := ((HI1.out.below hW).cut (k := _) (cap := _) hcut1 hcut2)
                        first | exact h | (simpa [Addr.add_lit] using h) | (rw [if_neg hcne] at h; simpa [Addr.add_lit] using h))
                      have HE := Lib.hid (HFIN.out A9 c9 u3 ho3 hb3)
                      clear ho3 hb3 HRUN HFIN
                      simp only [Nat.sub_zero] at hrun1 hrun2 hrun3 HE
                      go_wp2_with (first | (at_builtin; refine wpl_append rfl (.tmp 77) (.tmp 80) 23 rfl _ _ _ rfl rfl hrun1 ?_) | (at_builtin; refine wpl_append rfl (.tmp 82) (.tmp 84) 23 rfl _ _ _ rfl rfl hrun2 ?_) | (at_builtin; refine wpl_append rfl (.tmp 86) (.tmp 89) 23 rfl _ _ _ rfl rfl hrun3 ?_))
                      go_wp2
                      go_roundg gk'
                      case measure => omega
                      case rel => exact ⟨i + 1, _, c9, A9, rfl, by go_num, HN.out.1, HN.out.2.1, HN.out.2.2, HE⟩
                    · obtain rfl : l = 0 := by omega
                      have hjz : ¬ ((0 : Nat) : Int) < ((0 : Nat) : Int) := by omega
                      have hjzd : decide (((0 : Nat) : Int) < ((0 : Nat) : Int)) = false := decide_eq_false hjz
                      have hcut1 : 0 ≤ 0 := Nat.le_refl _
                      have hcut2 : 0 ≤ c6 := hl6
                      have hg0 : decide ((0 : Int) < 0) = false := rfl
                      clear hcg
                      by_cases hcne : c6 = 0
                      · subst hcne
                        obtain ⟨v1, u1, v2, u2, A9, c9, u3, hrun1, hrun2, hrun3, ho3, hb3⟩ := HRUN.out (some ⟨g, 0, none⟩) (0) (0) (fun W hW => by
                          have h := ((HI1.out.below hW).cut (k := _) (cap := _) hcut1 hcut2)
                          first | exact h | (simpa [Addr.add_lit] using h) | (rw [if_neg hcne] at h; simpa [Addr.add_lit] using h))
                        have HE := Lib.hid (HFIN.out A9 c9 u3 ho3 hb3)
                        clear ho3 hb3 HRUN HFIN
                        simp only [Nat.zero_add, Nat.sub_self] at hrun1 hrun2 hrun3 HE
                        go_wp2_with (first | (at_builtin; refine wpl_append rfl (.tmp 77) (.tmp 80) 23 rfl _ _ _ rfl rfl hrun1 ?_) | (at_builtin; refine wpl_append rfl (.tmp 82) (.tmp 84) 23 rfl _ _ _ rfl rfl hrun2 ?_) | (at_builtin; refine wpl_append rfl (.tmp 86) (.tmp 89) 23 rfl _ _ _ rfl rfl hrun3 ?_))
                        go_wp2
                        go_roundg gk'
                        case measure => omega
                        case rel => exact ⟨i + 1, _, c9, A9, rfl, by go_num, HN.out.1, HN.out.2.1, HN.out.2.2, HE⟩
                      · obtain ⟨v1, u1, v2, u2, A9, c9, u3, hrun1, hrun2, hrun3, ho3, hb3⟩ := HRUN.out (some ⟨g, 0, none⟩) (c6) (c6) (fun W hW => by
                          have h := ((HI1.out.below hW).cut (k := _) (cap := _) hcut1 hcut2)
                          first | exact h | (simpa [Addr.add_lit] using h) | (rw [if_neg hcne] at h; simpa [Addr.add_lit] using h))
                        have HE := Lib.hid (HFIN.out A9 c9 u3 ho3 hb3)
                        clear ho3 hb3 HRUN HFIN
                        simp only [Nat.zero_add, Nat.sub_self] at hrun1 hrun2 hrun3 HE
                        go_wp2_with (first | (at_builtin; refine wpl_append rfl (.tmp 77) (.tmp 80) 23 rfl _ _ _ rfl rfl hrun1 ?_) | (at_builtin; refine wpl_append rfl (.tmp 82) (.tmp 84) 23 rfl _ _ _ rfl rfl hrun2 ?_) | (at_builtin; refine wpl_append rfl (.tmp 86) (.tmp 89) 23 rfl _ _ _ rfl rfl hrun3 ?_))
                        go_wp2
                        go_roundg gk'
                        case measure => omega
                        case rel => exact ⟨i + 1, _, c9, A9, rfl, by go_num, HN.out.1, HN.out.2.1, HN.out.2.2, HE⟩
                  | succ k =>
                    by_cases hjl : (k + 1) < l
                    · obtain ⟨y, hy⟩ : ∃ y, L.getD (k + 1) 0 = y := ⟨_, rfl⟩
                      have hym : ¬ y = m := fun h => hHH ⟨hjl, by rw [hy]; exact h⟩
                      have f0 : w1.cell? ⟨g, (k + 1), none⟩ = some (.int .i64 y) := by rw [← hy]; exact hcg _ hjl
                      have hymb : (y == m) = false := by simpa using hym
                      have hjz : (((k + 1) : Nat) : Int) < (l : Int) := by omega
                      have hjzd : decide ((((k + 1) : Nat) : Int) < (l : Int)) = true := decide_eq_true hjz
                      have hcne : ¬ c6 = (k + 1) := by omega
                      have hcut1 : (k + 1) ≤ l := by omega
                      have hcut2 : l ≤ c6 := hl6
                      have hjz2 : (k : Int) + 1 < (l : Int) := by omega
                      obtain ⟨x, hx⟩ : ∃ x, L.getD k 0 = x := ⟨_, rfl⟩
                      have hk0 : ¬ m ≤ x := fun h => HG.out ⟨k, rfl, by rw [hx]; exact h⟩
                      have f1 : w1.cell? ⟨g, k, none⟩ = some (.int .i64 x) := by rw [← hx]; exact hcg k (by omega)
                      have hk1 : IntKind.i64.wrap (((k + 1 : Nat) : Int) - 1) = (k : Int) := by rw [IntWalk.i64_in _ (by omega)]; omega
                      have hk2 : IntKind.i64.wrap (k : Int) = (k : Int) := IntWalk.i64_in _ (by omega)
                      have hk3 : (0 : Int) < (k : Int) + 1 := by omega
                      have hk5 : (0 : Int) ≤ (k : Int) := by omega
                      clear hx
                      clear hcg hy
                      obtain ⟨v1, u1, v2, u2, A9, c9, u3, hrun1, hrun2, hrun3, ho3, hb3⟩ := HRUN.out (some ⟨g, k + 1, none⟩) (c6) (c6 - (k + 1)) (fun W hW => by
                        have h := ((HI1.out.below hW).cut (k := _) (cap := _) hcut1 hcut2)
                        first | exact h | (simpa [Addr.add_lit] using h) | (rw [if_neg hcne] at h; simpa [Addr.add_lit] using h))
                      have HE := Lib.hid (HFIN.out A9 c9 u3 ho3 hb3)
                      clear ho3 hb3 HRUN HFIN
                      skip
                      go_wp2_with (first | (at_builtin; refine wpl_append rfl (.tmp 77) (.tmp 80) 23 rfl _ _ _ rfl rfl hrun1 ?_) | (at_builtin; refine wpl_append rfl (.tmp 82) (.tmp 84) 23 rfl _ _ _ rfl rfl hrun2 ?_) | (at_builtin; refine wpl_append rfl (.tmp 86) (.tmp 89) 23 rfl _ _ _ rfl rfl hrun3 ?_))
                      go_wp2
                      go_roundg gk'
                      case measure => omega
                      case rel => exact ⟨i + 1, _, c9, A9, rfl, by go_num, HN.out.1, HN.out.2.1, HN.out.2.2, HE⟩
                    · obtain rfl : l = (k + 1) := by omega
                      have hjz : ¬ (((k + 1) : Nat) : Int) < (((k + 1) : Nat) : Int) := by omega
                      have hjzd : decide ((((k + 1) : Nat) : Int) < (((k + 1) : Nat) : Int)) = false := decide_eq_false hjz
                      have hcut1 : (k + 1) ≤ (k + 1) := Nat.le_refl _
                      have hcut2 : (k + 1) ≤ c6 := hl6
                      obtain ⟨x, hx⟩ : ∃ x, L.getD k 0 = x := ⟨_, rfl⟩
                      have hk0 : ¬ m ≤ x := fun h => HG.out ⟨k, rfl, by rw [hx]; exact h⟩
                      have f1 : w1.cell? ⟨g, k, none⟩ = some (.int .i64 x) := by rw [← hx]; exact hcg k (by omega)
                      have hk1 : IntKind.i64.wrap (((k + 1 : Nat) : Int) - 1) = (k : Int) := by rw [IntWalk.i64_in _ (by omega)]; omega
                      have hk2 : IntKind.i64.wrap (k : Int) = (k : Int) := IntWalk.i64_in _ (by omega)
                      have hk3 : (0 : Int) < (k : Int) + 1 := by omega
                      have hk5 : (0 : Int) ≤ (k : Int) := by omega
                      clear hx
                      clear hcg
                      by_cases hcne : c6 = (k + 1)
                      · subst hcne
                        obtain ⟨v1, u1, v2, u2, A9, c9, u3, hrun1, hrun2, hrun3, ho3, hb3⟩ := HRUN.out (some ⟨g, 0, none⟩) ((k + 1)) (0) (fun W hW => by
                          have h := ((HI1.out.below hW).cut (k := _) (cap := _) hcut1 hcut2)
                          first | exact h | (simpa [Addr.add_lit] using h) | (rw [if_neg hcne] at h; simpa [Addr.add_lit] using h))
                        have HE := Lib.hid (HFIN.out A9 c9 u3 ho3 hb3)
                        clear ho3 hb3 HRUN HFIN
                        simp only [Nat.sub_self] at hrun1 hrun2 hrun3 HE
                        go_wp2_with (first | (at_builtin; refine wpl_append rfl (.tmp 77) (.tmp 80) 23 rfl _ _ _ rfl rfl hrun1 ?_) | (at_builtin; refine wpl_append rfl (.tmp 82) (.tmp 84) 23 rfl _ _ _ rfl rfl hrun2 ?_) | (at_builtin; refine wpl_append rfl (.tmp 86) (.tmp 89) 23 rfl _ _ _ rfl rfl hrun3 ?_))
                        go_wp2
                        go_roundg gk'
                        case measure => omega
                        case rel => exact ⟨i + 1, _, c9, A9, rfl, by go_num, HN.out.1, HN.out.2.1, HN.out.2.2, HE⟩
                      · obtain ⟨v1, u1, v2, u2, A9, c9, u3, hrun1, hrun2, hrun3, ho3, hb3⟩ := HRUN.out (some ⟨g, k + 1, none⟩) (c6) (c6 - (k + 1)) (fun W hW => by
                          have h := ((HI1.out.below hW).cut (k := _) (cap := _) hcut1 hcut2)
                          first | exact h | (simpa [Addr.add_lit] using h) | (rw [if_neg hcne] at h; simpa [Addr.add_lit] using h))
                        have HE := Lib.hid (HFIN.out A9 c9 u3 ho3 hb3)
                        clear ho3 hb3 HRUN HFIN
                        simp only [Nat.sub_self] at hrun1 hrun2 hrun3 HE
                        go_wp2_with (first | (at_builtin; refine wpl_append rfl (.tmp 77) (.tmp 80) 23 rfl _ _ _ rfl rfl hrun1 ?_) | (at_builtin; refine wpl_append rfl (.tmp 82) (.tmp 84) 23 rfl _ _ _ rfl rfl hrun2 ?_) | (at_builtin; refine wpl_append rfl (.tmp 86) (.tmp 89) 23 rfl _ _ _ rfl rfl hrun3 ?_))
                        go_wp2
                        go_roundg gk'
                        case measure => omega
                        case rel => exact ⟨i + 1, _, c9, A9, rfl, by go_num, HN.out.1, HN.out.2.1, HN.out.2.2, HE⟩
        · have hs : msF xs below (i + 1) = msF xs below i := ms_skip fun q hq hqb => by
            have e := atF_num hq
            rw [hr] at e
            have e := Option.some.inj e
            refine hall ⟨by omega, ?_, ?_⟩
            · rw [← hx0]; exact Decidable.byContradiction fun h => by rw [atF_no4 h] at hq; cases hq
            · rw [← hx1]; exact Decidable.byContradiction fun h => by rw [atF_no8 h] at hq; cases hq
          have HI2 := HI.out
          rw [← hs] at HI2
          have HI3 := Lib.hid HI2
          clear hs HI2 HI hr hbd hx0 hx1
          by_cases hmb : below ≤ m
          · clear hall
            go_wp2_with (go_at_call 39; refine HNUM.out.mono ?_; rintro e w1 ⟨rfl, rfl⟩)
            go_wp2
            go_roundg gk'
            case measure => omega
            case rel => exact ⟨i + 1, l, c6, A6, rfl, by go_num, HN.out.1, HN.out.2.1, HN.out.2.2, HI3⟩
          · by_cases h4 : x0 = 4
            · have h8 : ¬ x1 = 8 := fun h => hall ⟨by omega, h4, h⟩
              have h8b : (x1 != 8) = true := by simpa using h8
              subst h4
              clear hall
              go_wp2_with (go_at_call 39; refine HNUM.out.mono ?_; rintro e w1 ⟨rfl, rfl⟩)
              go_wp2
              go_roundg gk'
              case measure => omega
              case rel => exact ⟨i + 1, l, c6, A6, rfl, by go_num, HN.out.1, HN.out.2.1, HN.out.2.2, HI3⟩
            · have h4b : (x0 != 4) = true := by simpa using h4
              clear hall
              go_wp2_with (go_at_call 39; refine HNUM.out.mono ?_; rintro e w1 ⟨rfl, rfl⟩)
              go_wp2
              go_roundg gk'
              case measure => omega
              case rel => exact ⟨i + 1, l, c6, A6, rfl, by go_num, HN.out.1, HN.out.2.1, HN.out.2.2, HI3⟩
    · have hltz : ¬ (i : Int) + 10 ≤ (n : Int) := by omega
      have hi2 : i = xs.length - 9 := by rw [HL.out]; omega
      have hI := HI.out
      rw [hi2] at hI
      have hfit := ms_fit HB.out.2.1 below (xs.length - 9)
      obtain ⟨_, _, e6, hl6, hm6, _⟩ := own_shape hI.2.1
      cases e6
      have HE : Hid (InsPost w (mentionsF xs below) (.returned (.slice A6 l c6)) wo) := Lib.hid (by
        unfold mentionsF
        have e := hI.1
        refine ⟨A6, c6, by rw [e], ?_, by rw [e]; exact ⟨hl6, hm6⟩, hI.2.2⟩
        rw [e]
        exact Ins.own hI.2.1 hfit)
      clear hI hfit hl6 hm6 HI hi2 hgk hi9
      go_wp2
      go_ret
      exact HE.out
end Go.Proofs.YtlhogjigdmpokaaGreatDoor.vtc
