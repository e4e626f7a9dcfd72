/- The law NamesFolded of warderlaw09 answers true for every name, and leaves its argument as it was; where what it reads is of bulk at most 1048576 (the second form's bound), and the library's two tables are as its text lays them. -/
import Derived.Test.YthcancakkkjpaaaDoorCards
import Derived.Test.YthcancakkkjpaaaDoorTie
import Derived.WalkKit
import Derived.ProofKit
import Derived.OpenShut
import Derived.ChangeOld
import Derived.Below
import Derived.SizedLaws
import Derived.Test.YthcancakkkjpaaaDoorKb
import Derived.Test.YthcancakkkjpaaaDoorXc
import Derived.Test.YthcancakkkjpaaaDoorRu
namespace Go.Proofs.YthcancakkkjpaaaDoor.namesFoldedUpto
open Go.ChangeShapes Go.WideShapes Go.ChangeAt Go.RowKit
set_option linter.unusedVariables false

theorem own : ownKnob Tryd.prog.godebug = none := by kernel_rfl
theorem laidOut : laidOutB Tryd.prog = true := by kernel_rfl

open Go.Proofs.YthcancakkkjpaaaDoor.tlvc Go.Proofs.YthcancakkkjpaaaDoor.ndc Go.Proofs.YthcancakkkjpaaaDoor.txc Go.Proofs.YthcancakkkjpaaaDoor.txm Go.Proofs.YthcancakkkjpaaaDoor.nmc

set_option maxRecDepth 100000 in
set_option maxHeartbeats 16000000 in
theorem walk (a0 : Option Addr) (len0 cap0 : Nat) (x0 : List dtc.Dt) (w : World) (e0 : x0.length = len0) (s0 : ∀ x ∈ x0, dtc.IsSh (.agg [.row (.int .i64), .str]) x) (w0 : 0 < len0 → ∃ g off, a0 = some ⟨g, off, none⟩ ∧ g < w.heap.size ∧ dtc.LiesRow (fun _ => True) w g (dtc.Sh.sz (.agg [.row (.int .i64), .str])) off x0) (l0 : len0 ≤ cap0) (m0 : cap0 ≤ maxLen) (y0 : dtc.smallDts x0) (hT : txc.Tabs w) :
    Calls Tryd.prog 7 #[.slice a0 len0 cap0] w fun e w' => e = .returned (.bool true) ∧ Below w.heap.size w w' := by
  obtain ⟨a, hl, hL, hz⟩ := name_ofS s0 y0 e0 w0
  have m9 : cap0 ≤ 9223372036854775807 := by unfold maxLen at m0; omega
  have mixed : Tryd.prog.follows Departure.mixedOrders = true := by kernel_rfl
  have HHD := Lib.hid (head_any w hT)
  by_cases hg : 200 < len0
  · have hzn : (200 : Int) < (len0 : Int) := by omega
    clear hL hz hl w0 e0 s0 y0
    go_enter Tryd.func7, Tryd.ntmps7
    go_wp2_with fail
    refine HHD.out.mono ?_
    rintro e wa ⟨rfl, hba⟩
    have HA := Lib.hid hba
    clear hba HHD
    go_wp2
    go_ret
    exact ⟨rfl, HA.out⟩
  have hzn : ¬ (200 : Int) < (len0 : Int) := by omega
  have HL := Lib.hid (And.intro hl (And.intro hL hz))
  have HM := Lib.hid (And.intro m0 (And.intro l0 (And.intro (show len0 ≤ 200 by omega) hT)))
  clear hL hz hl w0 e0 s0 y0 m0 hg hT
  go_enter Tryd.func7, Tryd.ntmps7
  go_wp2_with fail
  refine HHD.out.mono ?_
  rintro e W0 ⟨rfl, hba⟩
  have HA := Lib.hid hba
  clear hba HHD
  go_wp2_with fail
  go_loopg [4, 5, 6] (len0 + 1) (fun gk s4 s5 s6 wx => ∃ (i : Nat) (Av Bv : Option Addr) (ca cb : Nat), s4 = .slice Av i ca ∧ s5 = .slice Bv i cb ∧ s6 = .int .i64 i ∧ i ≤ len0 ∧ len0 - i < gk ∧ Hid (Two W0 (.slice Av i ca) (.slice Bv i cb) ((a.take i).map atP) ((a.take i).map atU) wx))
  case atStart => exact ⟨0, none, none, 0, 0, rfl, rfl, rfl, by omega, by omega, Lib.hid Two.start⟩
  case round =>
    obtain ⟨i, Av, Bv, ca, cb, rfl, rfl, rfl, hi, hgk, HI⟩ := hrel
    by_cases hlt : i < len0
    · have hltz : (i : Int) < (len0 : Int) := by omega
      obtain ⟨ga, rfl⟩ : ∃ g', gk = g' + 1 := ⟨gk - 1, by omega⟩
      have HN := Lib.hid (And.intro (show i + 1 ≤ len0 from hlt) (show len0 - (i + 1) < ga by omega))
      have hix : i < a.length := by rw [HL.out.1]; exact hlt
      obtain ⟨g, off, A0, l1, k1, s, rfl, hs, v0, v1, hx1, hx2, hx3, hx5, hxh⟩ := at_cells HL.out.2.1 (Below.refl _ w) i hix
      have hbw := below_then HA.out HI.out.bel (Nat.le_refl _)
      have e0 := cell_on hbw v0
      have e1 := cell_on hbw v1
      have hsz : s.size ≤ 1048576 := by rw [← hs]; exact HL.out.2.2 _ (List.getElem_mem hix)
      have HV := Lib.hid (fun W (hW : Below w.heap.size w W) => (⟨cell_on hW v0, cell_on hW v1⟩ : W.cell? ⟨g, off + i * 2, none⟩ = some (.slice A0 l1 k1) ∧ W.cell? ⟨g, off + i * 2 + 1, none⟩ = some (.string s)))
      have hins : ∀ W, Below w.heap.size w W → Ins W A0 l1 a[i].oid := fun W hW => hx3.below hW
      have hbd0 : 0 < l1 → ∀ g off sp, A0 = some ⟨g, off, sp⟩ → g < w.heap.size := fun hn g off sp e => by
        obtain ⟨b', off', e', hb', _⟩ := hx3.2.2 hn
        rw [e'] at e; cases e; exact hb'
      have HX := Lib.hid (And.intro hins (And.intro hbd0 (And.intro hx1 (And.intro hx2 hs))))
      have hcv := run_bytes_of_string (P := Tryd.prog) wr 9 28 5 s Tryd.underlying9 Tryd.underlying28 Tryd.underlying5
      have hgr := gr_new wr.drew s (grownCap wr s.size 0 5) 5
      have hgrc := grownCap_ge wr s.size 0 5
      have hgrm := grownCap_le_maxLen wr s.size 0 5 (by unfold maxLen; omega)
      have hbn : Below wr.heap.size wr (wr.drew.alloc (.cells (bytesRow s (grownCap wr s.size 0 5)) 5 ((bytesRow s (grownCap wr s.size 0 5)).size, (bytesRow s (grownCap wr s.size 0 5)).size + 1))) := ((Below.refl wr.heap.size wr).drew).alloc (Nat.le_refl _) _
      obtain ⟨cap, hcap⟩ : ∃ x, grownCap wr s.size 0 5 = x := ⟨_, rfl⟩
      rw [hcap] at hcv hgr hgrc hgrm hbn
      obtain ⟨W2, hW2⟩ : ∃ x, wr.drew.alloc (.cells (bytesRow s cap) 5 ((bytesRow s cap).size, (bytesRow s cap).size + 1)) = x := ⟨_, rfl⟩
      rw [hW2] at hgr hcv hbn
      obtain ⟨sg, hsg⟩ : ∃ x, wr.heap.size = x := ⟨_, rfl⟩
      rw [hsg] at hcv
      have hgr : Gr W2 sg s.size (half s 0) := by
        rw [show wr.drew.heap.size = sg from hsg] at hgr
        exact hgr.congr fun j hj => by unfold half; rw [if_neg (by omega)]
      have hT2 := HI.out.below hbn
      have hsg0 : W0.heap.size ≤ sg := by rw [← hsg]; exact HI.out.bel.size
      have hna : (Value.slice Av i ca).ownBlock ≠ some sg := fun e => by have := (HI.out.ltA _ e).2; omega
      have hnb : (Value.slice Bv i cb).ownBlock ≠ some sg := fun e => by have := (HI.out.ltB _ e).2; omega
      have HG := Lib.hid (And.intro hsg0 (And.intro hna (And.intro hnb (And.intro hgrc (And.intro hgrm hsz)))))
      have HT2 := Lib.hid (And.intro hT2 hgr)
      have s9 : s.size ≤ 9223372036854775807 := by omega
      have c9 : cap ≤ 9223372036854775807 := by unfold maxLen at hgrm; omega
      have sc : s.size ≤ cap := hgrc
      clear hgk hgr hgrc hgrm hbn hcap hW2 hsg hT2 hsg0 hna hnb hsz hins hbd0 hx1 hx2 hx3 hx5 hxh hs v0 v1 hbw
      go_wp2_with fail
      clear hcv e0 e1
      go_loopg [8] (s.size + 1) (fun gk s8 wx => ∃ (k : Nat), s8 = .int .i64 k ∧ k ≤ s.size ∧ s.size - k < gk ∧ Hid (Two W0 (.slice Av i ca) (.slice Bv i cb) ((a.take i).map atP) ((a.take i).map atU) wx ∧ Gr wx sg s.size (half s k)))
      case atStart => exact ⟨0, rfl, by omega, by omega, HT2⟩
      case round =>
        obtain ⟨k, rfl, hk, hgk, HK⟩ := hrel
        clear HT2
        by_cases hlk : k < s.size
        · have hkn : (k : Int) < (s.size : Int) := by omega
          obtain ⟨gb, rfl⟩ : ∃ g', gk = g' + 1 := ⟨gk - 1, by omega⟩
          have HN2 := Lib.hid (And.intro (show k + 1 ≤ s.size from hlk) (show s.size - (k + 1) < gb by omega))
          obtain ⟨hcell, hfro⟩ := HK.out.2.2 k hlk
          have hnat : half s k k = numAt s k := by unfold half; rw [if_neg (by omega)]
          rw [hnat] at hcell
          have hbd := numAt_bd s k
          obtain ⟨x, hx⟩ : ∃ x, numAt s k = x := ⟨_, rfl⟩
          rw [hx] at hcell hbd
          clear hgk hnat
          by_cases hup : 97 ≤ x ∧ x ≤ 122
          · have hu1 := hup.1
            have hu2 := hup.2
            have hset := half_set hlk HK.out.2 (z := x - 32) (by rw [hx]; unfold upI; rw [if_pos hup])
            have hsub : IntKind.u8.wrap (x - 32) = x - 32 := by rw [IntKind.wrap_u8]; omega
            have HS := Lib.hid (And.intro (HK.out.1.set (k := k) (v := .int .u8 (x - 32)) HG.out.1 HG.out.2.1 HG.out.2.2.1) hset)
            clear hset hup hx
            go_wp2
            go_roundg gb
            case measure => omega
            case rel => exact ⟨k + 1, by go_num, HN2.out.1, HN2.out.2, HS⟩
          · have hst := half_step HK.out.2 (by rw [hx]; unfold upI; rw [if_neg hup])
            have HS := Lib.hid (And.intro HK.out.1 hst)
            clear hst hx
            by_cases h97 : 97 ≤ x
            · have h122 : ¬ x ≤ 122 := by omega
              clear hup
              go_wp2
              go_roundg gb
              case measure => omega
              case rel => exact ⟨k + 1, by go_num, HN2.out.1, HN2.out.2, HS⟩
            · clear hup
              go_wp2
              go_roundg gb
              case measure => omega
              case rel => exact ⟨k + 1, by go_num, HN2.out.1, HN2.out.2, HS⟩
        · obtain rfl : k = s.size := by omega
          have hkn : ¬ (s.size : Int) < (s.size : Int) := by omega
          have hbys := half_bys HK.out.2
          obtain ⟨U, hU⟩ : ∃ x, strOfNums ((List.range s.size).map fun j => upI (numAt s j)) = x := ⟨_, rfl⟩
          have hstr : ∀ (W : World), (∀ g, g < wr.heap.size → g = sg → W.heap[g]? = wr.heap[g]?) → wr.heap.size ≤ W.heap.size → (convert 28 9 (.slice (some ⟨sg, 0, none⟩) s.size cap)).run Tryd.prog W = .ok (.string U) W := fun W hk hsz => by
            rw [← hU]
            exact intc.str_now (bys_stays (B := fun g => g = sg) ⟨hsz, fun p hp hl => World.cell?_of_block (hk p.block hl hp)⟩ hbys (fun _ g off sp e => by cases e; rfl)) cap
          have hbw := below_then HA.out HK.out.1.bel (Nat.le_refl _)
          obtain ⟨e0, e1⟩ := HV.out wr hbw
          have hlk1 : ((a.take i).map atP).length = i := by rw [List.length_map, List.length_take]; omega
          have hlk2 : ((a.take i).map atU).length = i := by rw [List.length_map, List.length_take]; omega
          have hnx1 : (a.take i).map atP ++ [⟨a[i].oid, prS s⟩] = (a.take (i + 1)).map atP := by rw [List.take_succ_eq_append_getElem hix, List.map_append, List.map_cons, List.map_nil, ← HX.out.2.2.2.2]; rfl
          have hnx2 : (a.take i).map atU ++ [⟨a[i].oid, U⟩] = (a.take (i + 1)).map atU := by rw [List.take_succ_eq_append_getElem hix, List.map_append, List.map_cons, List.map_nil, ← hU, ← HX.out.2.2.2.2]; rfl
          have hprep := fun W => refPrep_b s W (by have := HG.out.2.2.2.2.2; omega)
          have hPs : (prS s).size ≤ maxLen := by have h1 := prS_size s; have h2 := HG.out.2.2.2.2.2; unfold maxLen; omega
          have hUs : U.size ≤ maxLen := by rw [← hU, strOfNums_size]; have h2 := HG.out.2.2.2.2.2; simp; unfold maxLen; omega
          obtain ⟨P, hP⟩ : ∃ x, prS s = x := ⟨_, rfl⟩
          rw [hP] at hprep hnx1 hPs
          have hfa : ∀ (w3 : World) (g6 : Nat), Below wr.heap.size wr w3 → wr.heap.size ≤ g6 → w3.heap[g6]? = some (.cells #[.slice A0 l1 k1, .string P] 49) → ∃ A c w7, (Builtin.append_ #[23, 23] 23 #[.slice Av i ca, .slice (some ⟨g6, 0, none⟩) 1 1]).run Tryd.prog w3 = .ok (.slice A (i + 1) c) w7 ∧ Two W0 (.slice A (i + 1) c) (.slice Bv i cb) ((a.take (i + 1)).map atP) ((a.take i).map atU) w7 ∧ (∀ g, g < wr.heap.size → g = sg → w7.heap[g]? = wr.heap[g]?) ∧ wr.heap.size ≤ w7.heap.size := fun w3 g6 h3 hg6 hbox => by
            have hb3 := below_then hbw h3 (Nat.le_refl _)
            obtain ⟨A, c, w7, hr, hI, hk, hs7, _⟩ := HK.out.1.pushA h3 (x := ⟨a[i].oid, P⟩) (news := [.slice A0 l1 k1, .string P]) ⟨_, _, rfl, A0, l1, k1, rfl, rfl, HX.out.2.2.1, HX.out.2.2.2.1, HX.out.1 _ hb3, fun hn g off sp e => Nat.lt_of_lt_of_le (HX.out.2.1 hn g off sp e) HA.out.size, hPs⟩ hg6 hbox (fun j u hu => by
              match j, hu with
              | 0, hu => exact hu
              | 1, hu => exact hu
              | j + 2, hu => simp at hu) (by rw [hlk1]; have := HM.out.2.2.1; omega)
            rw [hlk1] at hr hI
            rw [hnx1] at hI
            exact ⟨A, c, w7, hr, hI, fun g hg e => (hk g (Nat.lt_of_lt_of_le hg h3.size) (by rw [e]; exact HG.out.2.1)).trans (h3.block g hg), Nat.le_trans h3.size hs7⟩
          have hfb : ∀ (A : Option Addr) (c : Nat) (w3 w5 : World) (g6 : Nat), Two W0 (.slice A (i + 1) c) (.slice Bv i cb) ((a.take (i + 1)).map atP) ((a.take i).map atU) w3 → Below w3.heap.size w3 w5 → w3.heap.size ≤ g6 → w5.heap[g6]? = some (.cells #[.slice A0 l1 k1, .string U] 49) → ∃ B c2 w7, (Builtin.append_ #[23, 23] 23 #[.slice Bv i cb, .slice (some ⟨g6, 0, none⟩) 1 1]).run Tryd.prog w5 = .ok (.slice B (i + 1) c2) w7 ∧ Two W0 (.slice A (i + 1) c) (.slice B (i + 1) c2) ((a.take (i + 1)).map atP) ((a.take (i + 1)).map atU) w7 ∧ (∀ g, g < w3.heap.size → g = sg → w7.heap[g]? = w3.heap[g]?) ∧ w3.heap.size ≤ w7.heap.size := fun A c w3 w5 g6 h2 h5 hg6 hbox => by
            have hb3 := below_then HA.out (h2.below h5).bel (Nat.le_refl _)
            obtain ⟨B, c2, w7, hr, hI, hk, hs7, _⟩ := h2.swap_.pushA h5 (x := ⟨a[i].oid, U⟩) (news := [.slice A0 l1 k1, .string U]) ⟨_, _, rfl, A0, l1, k1, rfl, rfl, HX.out.2.2.1, HX.out.2.2.2.1, HX.out.1 _ hb3, fun hn g off sp e => Nat.lt_of_lt_of_le (HX.out.2.1 hn g off sp e) HA.out.size, hUs⟩ hg6 hbox (fun j u hu => by
              match j, hu with
              | 0, hu => exact hu
              | 1, hu => exact hu
              | j + 2, hu => simp at hu) (by rw [hlk2]; have := HM.out.2.2.1; omega)
            rw [hlk2] at hr hI
            rw [hnx2] at hI
            exact ⟨B, c2, w7, hr, hI.swap_, fun g hg e => (hk g (Nat.lt_of_lt_of_le hg h5.size) (by rw [e]; exact HG.out.2.2.1)).trans (h5.block g hg), Nat.le_trans h5.size hs7⟩
          have HFA := Lib.hid hfa
          have HFB := Lib.hid hfb
          have HPR := Lib.hid hprep
          have HST := Lib.hid hstr
          clear hfa hfb hprep hstr hbys hU hP hPs hUs hlk1 hlk2 hnx1 hnx2 hbw hgk
          go_wp2_with fail
          try dsimp only
          refine wp_region_noPanic ?_
          refine wp_region_held_drew (S := fun wx : World => wx.cell? ⟨g, off + i * 2, none⟩ = some (.slice A0 l1 k1) ∧ wx.cell? ⟨g, off + i * 2 + 1, none⟩ = some (.string s)) mixed ⟨e0, e1⟩ (fun hHeld => ?_)
          have hbd := below_drew wr
          obtain ⟨wd, hwd⟩ : ∃ x, wr.drew = x := ⟨_, rfl⟩
          rw [hwd] at hHeld hbd ⊢
          clear hwd
          (refine wpAnyH_take (i := 0) (oi := ⟨_, _, _, _, _, _⟩) (v := ?_) rfl (by kernel_rfl) (by kernel_rfl) (by kernel_rfl) (fun _ _ _ h => h) (Or.inl ⟨by rfl, ?_⟩) (by assumption) ?_; rotate_left; focus (intro wS hSw; (first | obtain ⟨c1, c2⟩ := hSw | skip); go_simp; (try with_reducible rfl); done); (try simp only [Act.put, List.setIfInBounds_toArray, List.set_cons_zero, List.set_cons_succ]))
          (refine wpAnyH_take (i := 1) (oi := ⟨_, _, _, _, _, _⟩) (v := ?_) rfl (by kernel_rfl) (by kernel_rfl) (by kernel_rfl) (fun _ _ _ h => h) (Or.inl ⟨by rfl, ?_⟩) (by assumption) ?_; rotate_left; focus (intro wS hSw; (first | obtain ⟨c1, c2⟩ := hSw | skip); go_simp; (try with_reducible rfl); done); (try simp only [Act.put, List.setIfInBounds_toArray, List.set_cons_zero, List.set_cons_succ]))
          (refine wpAnyH_take (i := 2) (oi := ⟨_, _, _, _, _, _⟩) (v := ?_) rfl (by kernel_rfl) (by kernel_rfl) (by kernel_rfl) (fun _ _ _ h => h) (Or.inl ⟨by rfl, ?_⟩) (by assumption) ?_; rotate_left; focus (intro wS hSw; (first | obtain ⟨c1, c2⟩ := hSw | skip); go_simp; (try with_reducible rfl); done); (try simp only [Act.put, List.setIfInBounds_toArray, List.set_cons_zero, List.set_cons_succ]))
          (refine wpAnyH_take (i := 3) (oi := ⟨_, _, _, _, _, _⟩) (v := ?_) rfl (by kernel_rfl) (by kernel_rfl) (by kernel_rfl) (fun _ _ _ h => h) (Or.inl ⟨by rfl, ?_⟩) (by assumption) ?_; rotate_left; focus (intro wS hSw; (first | obtain ⟨c1, c2⟩ := hSw | skip); go_simp; (try with_reducible rfl); done); (try simp only [Act.put, List.setIfInBounds_toArray, List.set_cons_zero, List.set_cons_succ]))
          (refine wpAnyH_take (i := 4) (oi := ⟨_, _, _, _, _, _⟩) (v := ?_) rfl (by kernel_rfl) (by kernel_rfl) (by kernel_rfl) (fun _ _ _ h => h) (Or.inl ⟨by rfl, ?_⟩) (by assumption) ?_; rotate_left; focus (intro wS hSw; (first | obtain ⟨c1, c2⟩ := hSw | skip); go_simp; (try with_reducible rfl); done); (try simp only [Act.put, List.setIfInBounds_toArray, List.set_cons_zero, List.set_cons_succ]))
          (refine wpAnyH_take (i := 5) (oi := ⟨_, _, _, _, _, _⟩) (v := ?_) rfl (by kernel_rfl) (by kernel_rfl) (by kernel_rfl) (fun _ _ _ h => h) (Or.inl ⟨by rfl, ?_⟩) (by assumption) ?_; rotate_left; focus (intro wS hSw; (first | obtain ⟨c1, c2⟩ := hSw | skip); go_simp; (try with_reducible rfl); done); (try simp only [Act.put, List.setIfInBounds_toArray, List.set_cons_zero, List.set_cons_succ]))
          (refine wpAnyH_take (i := 6) (oi := ⟨_, _, _, _, _, _⟩) (v := ?_) rfl (by kernel_rfl) (by kernel_rfl) (by kernel_rfl) (fun _ _ _ h => h) (Or.inl ⟨by rfl, ?_⟩) (by assumption) ?_; rotate_left; focus (intro wS hSw; (first | obtain ⟨c1, c2⟩ := hSw | skip); go_simp; (try with_reducible rfl); done); (try simp only [Act.put, List.setIfInBounds_toArray, List.set_cons_zero, List.set_cons_succ]))
          (refine wpAnyH_take (i := 7) (oi := ⟨_, _, _, _, _, _⟩) (v := ?_) rfl (by kernel_rfl) (by kernel_rfl) (by kernel_rfl) (fun _ _ _ h => h) (Or.inl ⟨by rfl, ?_⟩) (by assumption) ?_; rotate_left; focus (intro wS hSw; (first | obtain ⟨c1, c2⟩ := hSw | skip); go_simp; (try with_reducible rfl); done); (try simp only [Act.put, List.setIfInBounds_toArray, List.set_cons_zero, List.set_cons_succ]))
          (refine wpAnyH_take (i := 8) (oi := ⟨_, _, _, _, _, _⟩) (v := ?_) rfl (by kernel_rfl) (by kernel_rfl) (by kernel_rfl) (fun _ _ _ h => h) (Or.inl ⟨by rfl, ?_⟩) (by assumption) ?_; rotate_left; focus (intro wS hSw; (first | obtain ⟨c1, c2⟩ := hSw | skip); go_simp; (try with_reducible rfl); done); (try simp only [Act.put, List.setIfInBounds_toArray, List.set_cons_zero, List.set_cons_succ]))
          (refine wpAnyH_take (i := 9) (oi := ⟨_, _, _, _, _, _⟩) (v := ?_) rfl (by kernel_rfl) (by kernel_rfl) (by kernel_rfl) (fun _ _ _ h => h) (Or.inl ⟨by rfl, ?_⟩) (by assumption) ?_; rotate_left; focus (intro wS hSw; (first | obtain ⟨c1, c2⟩ := hSw | skip); go_simp; (try with_reducible rfl); done); (try simp only [Act.put, List.setIfInBounds_toArray, List.set_cons_zero, List.set_cons_succ]))
          (refine wpAnyH_take (i := 10) (oi := ⟨_, _, _, _, _, _⟩) (v := ?_) rfl (by kernel_rfl) (by kernel_rfl) (by kernel_rfl) (fun _ _ _ h => h) (Or.inl ⟨by rfl, ?_⟩) (by assumption) ?_; rotate_left; focus (intro wS hSw; (first | obtain ⟨c1, c2⟩ := hSw | skip); go_simp; (try with_reducible rfl); done); (try simp only [Act.put, List.setIfInBounds_toArray, List.set_cons_zero, List.set_cons_succ]))
          refine wpAnyH_ready (rs := [11]) (by kernel_rfl) (by simp) ?_
          refine AllReadyH.cons (o := ⟨_, _, _, _, _, _⟩) rfl (fun KK hKK => ?_) AllReadyH.nil
          go_simp
          refine (HPR.out _).mono ?_
          rintro e w2 ⟨rfl, hb2⟩
          dsimp only
          have hb2 := below_then hbd hb2 (Nat.le_refl _)
          refine hKK.out _ _ ⟨cell_on hb2 e0, cell_on hb2 e1⟩ (fun hHeld2 => ?_)
          clear hKK KK hHeld
          have hHeld := hHeld2
          clear hHeld2
          try simp only [Act.put, List.setIfInBounds_toArray, List.set_cons_zero, List.set_cons_succ]
          (refine wpAnyH_take (i := 12) (oi := ⟨_, _, _, _, _, _⟩) (v := ?_) rfl (by kernel_rfl) (by kernel_rfl) (by kernel_rfl) (fun _ _ _ h => h) (Or.inl ⟨by rfl, ?_⟩) (by assumption) ?_; rotate_left; focus (intro wS hSw; (first | obtain ⟨c1, c2⟩ := hSw | skip); go_simp; (try with_reducible rfl); done); (try simp only [Act.put, List.setIfInBounds_toArray, List.set_cons_zero, List.set_cons_succ]))
          refine wpAnyH_ready (rs := [13]) (by kernel_rfl) (by simp) ?_
          refine AllReadyH.cons (o := ⟨_, _, _, _, _, _⟩) rfl (fun KK hKK => ?_) AllReadyH.nil
          go_simp
          have hb3 := below_then hb2 (below_new w2 (.cells #[.slice A0 l1 k1, .string P] 49)) (Nat.le_refl _)
          refine hKK.out _ _ ⟨cell_on hb3 e0, cell_on hb3 e1⟩ (fun hHeld2 => ?_)
          clear hKK KK hHeld
          have hHeld := hHeld2
          clear hHeld2
          try simp only [Act.put, List.setIfInBounds_toArray, List.set_cons_zero, List.set_cons_succ]
          obtain ⟨A7, c7, w7, hrun, hI7, hkp, hsz7⟩ := HFA.out (w2.alloc (.cells #[.slice A0 l1 k1, .string P] 49)) w2.heap.size hb3 hb2.size (heap_new_ _ _)
          have hb7 := below_then HA.out hI7.bel (Nat.le_refl _)
          have hcb := HV.out w7 hb7
          have hst := HST.out w7 hkp hsz7
          have HI7 := Lib.hid (And.intro hI7 (And.intro hkp hsz7))
          refine wpAnyH_ready (rs := [14]) (by kernel_rfl) (by simp) ?_
          refine AllReadyH.cons (o := ⟨_, _, _, _, _, _⟩) rfl (fun KK hKK => ?_) AllReadyH.nil
          refine step_run rfl (.tmp 53) (.tmp 66) 23 rfl _ _ _ (by first | rfl | simp [Act.eval, Act.put]) (by first | rfl | simp [Act.eval, Act.put]) hrun (hKK.out _ _ hcb (fun hHeld2 => ?_))
          clear hKK KK hHeld
          have hHeld := hHeld2
          clear hHeld2
          try simp only [Act.put, List.setIfInBounds_toArray, List.set_cons_zero, List.set_cons_succ]
          (refine wpAnyH_take (i := 15) (oi := ⟨_, _, _, _, _, _⟩) (v := ?_) rfl (by kernel_rfl) (by kernel_rfl) (by kernel_rfl) (fun _ _ _ h => h) (Or.inl ⟨by rfl, ?_⟩) (by assumption) ?_; rotate_left; focus (intro wS hSw; (first | obtain ⟨c1, c2⟩ := hSw | skip); go_simp; (try with_reducible rfl); done); (try simp only [Act.put, List.setIfInBounds_toArray, List.set_cons_zero, List.set_cons_succ]))
          refine wpAnyH_done (by kernel_rfl) ?_ _
          refine NoPanic.normal ?_
          clear hHeld hI7 hkp hsz7 hrun hb3 hb2 hbd e0 e1 hst HPR HFA
          obtain ⟨e0, e1⟩ := hcb
          go_wp2_with fail
          try dsimp only
          refine wp_region_noPanic ?_
          refine wp_region_held_drew (S := fun wx : World => wx.cell? ⟨g, off + i * 2, none⟩ = some (.slice A0 l1 k1) ∧ wx.cell? ⟨g, off + i * 2 + 1, none⟩ = some (.string s) ∧ (convert 28 9 (.slice (some ⟨sg, 0, none⟩) s.size cap)).run Tryd.prog wx = .ok (.string U) wx) mixed ⟨cell_on (below_drew w7) e0, cell_on (below_drew w7) e1, HST.out _ (fun g hg e => ((below_drew w7).block g (Nat.lt_of_lt_of_le hg HI7.out.2.2)).trans (HI7.out.2.1 g hg e)) (Nat.le_trans HI7.out.2.2 (below_drew w7).size)⟩ (fun hHeld => ?_)
          have hbd := below_drew w7
          obtain ⟨wd, hwd⟩ : ∃ x, w7.drew = x := ⟨_, rfl⟩
          rw [hwd] at hHeld hbd ⊢
          clear hwd
          (refine wpAnyH_take (i := 0) (oi := ⟨_, _, _, _, _, _⟩) (v := ?_) rfl (by kernel_rfl) (by kernel_rfl) (by kernel_rfl) (fun _ _ _ h => h) (Or.inl ⟨by rfl, ?_⟩) (by assumption) ?_; rotate_left; focus (intro wS hSw; (first | obtain ⟨c1, c2, c3⟩ := hSw | skip); go_simp; (try with_reducible rfl); done); (try simp only [Act.put, List.setIfInBounds_toArray, List.set_cons_zero, List.set_cons_succ]))
          (refine wpAnyH_take (i := 1) (oi := ⟨_, _, _, _, _, _⟩) (v := ?_) rfl (by kernel_rfl) (by kernel_rfl) (by kernel_rfl) (fun _ _ _ h => h) (Or.inl ⟨by rfl, ?_⟩) (by assumption) ?_; rotate_left; focus (intro wS hSw; (first | obtain ⟨c1, c2, c3⟩ := hSw | skip); go_simp; (try with_reducible rfl); done); (try simp only [Act.put, List.setIfInBounds_toArray, List.set_cons_zero, List.set_cons_succ]))
          (refine wpAnyH_take (i := 2) (oi := ⟨_, _, _, _, _, _⟩) (v := ?_) rfl (by kernel_rfl) (by kernel_rfl) (by kernel_rfl) (fun _ _ _ h => h) (Or.inl ⟨by rfl, ?_⟩) (by assumption) ?_; rotate_left; focus (intro wS hSw; (first | obtain ⟨c1, c2, c3⟩ := hSw | skip); go_simp; (try with_reducible rfl); done); (try simp only [Act.put, List.setIfInBounds_toArray, List.set_cons_zero, List.set_cons_succ]))
          (refine wpAnyH_take (i := 3) (oi := ⟨_, _, _, _, _, _⟩) (v := ?_) rfl (by kernel_rfl) (by kernel_rfl) (by kernel_rfl) (fun _ _ _ h => h) (Or.inl ⟨by rfl, ?_⟩) (by assumption) ?_; rotate_left; focus (intro wS hSw; (first | obtain ⟨c1, c2, c3⟩ := hSw | skip); go_simp; (try with_reducible rfl); done); (try simp only [Act.put, List.setIfInBounds_toArray, List.set_cons_zero, List.set_cons_succ]))
          (refine wpAnyH_take (i := 4) (oi := ⟨_, _, _, _, _, _⟩) (v := ?_) rfl (by kernel_rfl) (by kernel_rfl) (by kernel_rfl) (fun _ _ _ h => h) (Or.inl ⟨by rfl, ?_⟩) (by assumption) ?_; rotate_left; focus (intro wS hSw; (first | obtain ⟨c1, c2, c3⟩ := hSw | skip); go_simp; (try with_reducible rfl); done); (try simp only [Act.put, List.setIfInBounds_toArray, List.set_cons_zero, List.set_cons_succ]))
          (refine wpAnyH_take (i := 5) (oi := ⟨_, _, _, _, _, _⟩) (v := ?_) rfl (by kernel_rfl) (by kernel_rfl) (by kernel_rfl) (fun _ _ _ h => h) (Or.inl ⟨by rfl, ?_⟩) (by assumption) ?_; rotate_left; focus (intro wS hSw; (first | obtain ⟨c1, c2, c3⟩ := hSw | skip); go_simp; (try with_reducible rfl); done); (try simp only [Act.put, List.setIfInBounds_toArray, List.set_cons_zero, List.set_cons_succ]))
          (refine wpAnyH_take (i := 6) (oi := ⟨_, _, _, _, _, _⟩) (v := ?_) rfl (by kernel_rfl) (by kernel_rfl) (by kernel_rfl) (fun _ _ _ h => h) (Or.inl ⟨by rfl, ?_⟩) (by assumption) ?_; rotate_left; focus (intro wS hSw; (first | obtain ⟨c1, c2, c3⟩ := hSw | skip); go_simp; (try with_reducible rfl); done); (try simp only [Act.put, List.setIfInBounds_toArray, List.set_cons_zero, List.set_cons_succ]))
          (refine wpAnyH_take (i := 7) (oi := ⟨_, _, _, _, _, _⟩) (v := ?_) rfl (by kernel_rfl) (by kernel_rfl) (by kernel_rfl) (fun _ _ _ h => h) (Or.inl ⟨by rfl, ?_⟩) (by assumption) ?_; rotate_left; focus (intro wS hSw; (first | obtain ⟨c1, c2, c3⟩ := hSw | skip); go_simp; (try with_reducible rfl); done); (try simp only [Act.put, List.setIfInBounds_toArray, List.set_cons_zero, List.set_cons_succ]))
          (refine wpAnyH_take (i := 8) (oi := ⟨_, _, _, _, _, _⟩) (v := ?_) rfl (by kernel_rfl) (by kernel_rfl) (by kernel_rfl) (fun _ _ _ h => h) (Or.inl ⟨by rfl, ?_⟩) (by assumption) ?_; rotate_left; focus (intro wS hSw; (first | obtain ⟨c1, c2, c3⟩ := hSw | skip); go_simp; (try with_reducible rfl); done); (try simp only [Act.put, List.setIfInBounds_toArray, List.set_cons_zero, List.set_cons_succ]))
          refine wpAnyH_ready (rs := [9]) (by kernel_rfl) (by simp) ?_
          refine AllReadyH.cons (o := ⟨_, _, _, _, _, _⟩) rfl (fun KK hKK => ?_) AllReadyH.nil
          go_simp
          have hb3 := below_then hbd (below_new wd (.cells #[.slice A0 l1 k1, .string U] 49)) (Nat.le_refl _)
          refine hKK.out _ _ ⟨cell_on hb3 e0, cell_on hb3 e1, HST.out _ (fun g hg e => (hb3.block g (Nat.lt_of_lt_of_le hg HI7.out.2.2)).trans (HI7.out.2.1 g hg e)) (Nat.le_trans HI7.out.2.2 hb3.size)⟩ (fun hHeld2 => ?_)
          clear hKK KK hHeld
          have hHeld := hHeld2
          clear hHeld2
          try simp only [Act.put, List.setIfInBounds_toArray, List.set_cons_zero, List.set_cons_succ]
          obtain ⟨B7, d7, w8, hrun, hI8, hkp8, hsz8⟩ := HFB.out A7 c7 w7 (wd.alloc (.cells #[.slice A0 l1 k1, .string U] 49)) wd.heap.size HI7.out.1 hb3 hbd.size (heap_new_ _ _)
          have hb8 := below_then HA.out hI8.bel (Nat.le_refl _)
          have hcb := HV.out w8 hb8
          have hcc := HST.out w8 (fun g hg e => (hkp8 g (Nat.lt_of_lt_of_le hg HI7.out.2.2) e).trans (HI7.out.2.1 g hg e)) (Nat.le_trans HI7.out.2.2 hsz8)
          have HI8 := Lib.hid hI8
          refine wpAnyH_ready (rs := [10]) (by kernel_rfl) (by simp) ?_
          refine AllReadyH.cons (o := ⟨_, _, _, _, _, _⟩) rfl (fun KK hKK => ?_) AllReadyH.nil
          refine step_run rfl (.tmp 68) (.tmp 77) 23 rfl _ _ _ (by first | rfl | simp [Act.eval, Act.put]) (by first | rfl | simp [Act.eval, Act.put]) hrun (hKK.out _ _ ⟨hcb.1, hcb.2, hcc⟩ (fun hHeld2 => ?_))
          clear hKK KK hHeld
          have hHeld := hHeld2
          clear hHeld2
          try simp only [Act.put, List.setIfInBounds_toArray, List.set_cons_zero, List.set_cons_succ]
          (refine wpAnyH_take (i := 11) (oi := ⟨_, _, _, _, _, _⟩) (v := ?_) rfl (by kernel_rfl) (by kernel_rfl) (by kernel_rfl) (fun _ _ _ h => h) (Or.inl ⟨by rfl, ?_⟩) (by assumption) ?_; rotate_left; focus (intro wS hSw; (first | obtain ⟨c1, c2, c3⟩ := hSw | skip); go_simp; (try with_reducible rfl); done); (try simp only [Act.put, List.setIfInBounds_toArray, List.set_cons_zero, List.set_cons_succ]))
          refine wpAnyH_done (by kernel_rfl) ?_ _
          refine NoPanic.normal ?_
          clear hHeld hI8 hkp8 hsz8 hrun hb3 hbd e0 e1 hcb hcc HST HFB hb7 hb8
          go_wp2_with fail
          go_roundg ga
          case measure => omega
          case rel => exact ⟨i + 1, A7, B7, c7, d7, rfl, rfl, by go_num, HN.out.1, HN.out.2, HI8⟩
    · obtain rfl : len0 = i := by omega
      have hltz : ¬ (len0 : Int) < (len0 : Int) := by omega
      obtain ⟨A1, c1, ea, ha1, ha2, hLa⟩ := HI.out.listA
      obtain ⟨B1, d1, eb, hb1, hb2, hLb⟩ := HI.out.swap_.listA
      have htk : a.take len0 = a := List.take_of_length_le (by rw [HL.out.1]; omega)
      rw [htk] at ea eb ha1 hb1 hLa hLb
      rw [List.length_map, HL.out.1] at ea eb ha1 hb1
      simp only [Value.slice.injEq] at ea eb
      obtain ⟨rfl, _, rfl⟩ := ea
      obtain ⟨rfl, _, rfl⟩ := eb
      have hbw := below_then HA.out HI.out.bel (Nat.le_refl _)
      have za : ∀ x ∈ a, x.text.size ≤ 8796093022208 := fun x hx => by have := HL.out.2.2 x hx; omega
      have zp : ∀ x ∈ a.map atP, x.text.size ≤ 8796093022208 := fun x hx => by
        obtain ⟨y, hy, rfl⟩ := List.mem_map.1 hx
        have h1 := HL.out.2.2 y hy
        have h2 := prS_size y.text
        show (prS y.text).size ≤ _
        omega
      have zu : ∀ x ∈ a.map atU, x.text.size ≤ 8796093022208 := fun x hx => by
        obtain ⟨y, hy, rfl⟩ := List.mem_map.1 hx
        have h1 := HL.out.2.2 y hy
        show (strOfNums _).size ≤ _
        rw [strOfNums_size]
        simp
        omega
      have h1 := fun W (hW : Below wr.heap.size wr W) => same_any _ _ a0 Av len0 cap0 len0 ca a (a.map atP) W HL.out.1 (by rw [List.length_map, HL.out.1]) (HL.out.2.1.below (below_then hbw hW (Nat.le_refl _))) (hLa.below hW) HM.out.2.1 HM.out.1 ha1 ha2 za zp
      have h2 := fun W (hW : Below wr.heap.size wr W) => same_any _ _ a0 Bv len0 cap0 len0 cb a (a.map atU) W HL.out.1 (by rw [List.length_map, HL.out.1]) (HL.out.2.1.below (below_then hbw hW (Nat.le_refl _))) (hLb.below hW) HM.out.2.1 HM.out.1 hb1 hb2 za zu
      have h3 := fun W (hW : Below wr.heap.size wr W) (k : Nat) (hk : k ≤ len0) => under_any _ _ a0 a0 len0 cap0 k cap0 a (a.take k) W HL.out.1 (by rw [List.length_take, HL.out.1]; omega) (HL.out.2.1.below (below_then hbw hW (Nat.le_refl _))) ((HL.out.2.1.below (below_then hbw hW (Nat.le_refl _))).take k) HM.out.2.1 HM.out.1 (by have := HM.out.2.1; omega) HM.out.1 za (fun x hx => za x (List.mem_of_mem_take hx))
      have h4 := fun W (hW : Below wr.heap.size wr W) (k : Nat) (hk : k ≤ len0) => same_any _ _ a0 a0 len0 cap0 k cap0 a (a.take k) W HL.out.1 (by rw [List.length_take, HL.out.1]; omega) (HL.out.2.1.below (below_then hbw hW (Nat.le_refl _))) ((HL.out.2.1.below (below_then hbw hW (Nat.le_refl _))).take k) HM.out.2.1 HM.out.1 (by have := HM.out.2.1; omega) HM.out.1 za (fun x hx => za x (List.mem_of_mem_take hx))
      rw [mapP] at h1
      rw [mapU] at h2
      simp only [unP_take] at h3
      have H1 := Lib.hid h1
      have H2 := Lib.hid h2
      have H3 := Lib.hid h3
      have H4 := Lib.hid h4
      have HB := Lib.hid hbw
      clear h1 h2 h3 h4 za zp zu hLa hLb ha1 ha2 hb1 hb2 htk hbw hgk HI
      by_cases h0 : len0 = 0
      · subst h0
        have ha0 : a = [] := List.eq_nil_of_length_eq_zero HL.out.1
        have hS0 : eqP eqA a (a.take 0) = true := by rw [ha0]; rfl
        have hw1 : IntKind.i64.wrap ((0 : Int) - 1) = -1 := by decide
        clear ha0
        have HC := Lib.hid (H1.out wr (Below.refl _ _))
        go_wp2_with fail
        refine HC.out.mono ?_
        rintro e wc1 ⟨rfl, hbb⟩
        have HK1 := Lib.hid hbb
        clear hbb HC
        have HC := Lib.hid (H2.out wc1 HK1.out)
        go_wp2_with fail
        refine HC.out.mono ?_
        rintro e wc2 ⟨rfl, hbb⟩
        have hbb := below_then HK1.out hbb (Nat.le_refl _)
        have HK2 := Lib.hid hbb
        clear hbb HC
        have HC := Lib.hid (H3.out wc2 HK2.out 0 (by omega))
        go_wp2_with fail
        refine HC.out.mono ?_
        rintro e wc3 ⟨rfl, hbb⟩
        have hbb := below_then HK2.out hbb (Nat.le_refl _)
        have HK3 := Lib.hid hbb
        clear hbb HC
        have HC := Lib.hid (H4.out wc3 HK3.out 0 (by omega))
        rw [hS0] at HC
        go_wp2_with fail
        refine HC.out.mono ?_
        rintro e wc4 ⟨rfl, hbb⟩
        have hbb := below_then HK3.out hbb (Nat.le_refl _)
        have HK4 := Lib.hid hbb
        clear hbb HC
        have HF := Lib.hid (below_then HB.out HK4.out (Nat.le_refl _))
        clear HK1 HK2 HK3 HK4 H1 H2 H3 H4
        go_wp2
        go_ret
        exact ⟨by first | rfl | simp, HF.out⟩
      · obtain ⟨k, hk⟩ : ∃ k, k + 1 = len0 := ⟨len0 - 1, by omega⟩
        have hS0 : eqP eqA a (a.take k) = false := eqP_short (by rw [HL.out.1]; exact hk)
        have hw1 : IntKind.i64.wrap ((len0 : Int) - 1) = (k : Int) := by
          rw [IntWalk.i64_in _ (by have := HM.out.2.2.1; omega)]
          omega
        have hkl : k ≤ len0 := by omega
        have hkc : k ≤ cap0 := by have := HM.out.2.1; omega
        have hki : (k : Int) ≤ (cap0 : Int) := by omega
        have hk0 : (0 : Int) ≤ (k : Int) := by omega
        have hz0 : ((len0 : Int) == 0) = false := by rw [beq_eq_false_iff_ne]; omega
        have HKL := Lib.hid hkl
        clear hk h0 hkl
        have HC := Lib.hid (H1.out wr (Below.refl _ _))
        go_wp2_with fail
        refine HC.out.mono ?_
        rintro e wc1 ⟨rfl, hbb⟩
        have HK1 := Lib.hid hbb
        clear hbb HC
        have HC := Lib.hid (H2.out wc1 HK1.out)
        go_wp2_with fail
        refine HC.out.mono ?_
        rintro e wc2 ⟨rfl, hbb⟩
        have hbb := below_then HK1.out hbb (Nat.le_refl _)
        have HK2 := Lib.hid hbb
        clear hbb HC
        have HC := Lib.hid (H3.out wc2 HK2.out k HKL.out)
        go_wp2_with fail
        refine HC.out.mono ?_
        rintro e wc3 ⟨rfl, hbb⟩
        have hbb := below_then HK2.out hbb (Nat.le_refl _)
        have HK3 := Lib.hid hbb
        clear hbb HC
        have HC := Lib.hid (H4.out wc3 HK3.out k HKL.out)
        rw [hS0] at HC
        go_wp2_with fail
        refine HC.out.mono ?_
        rintro e wc4 ⟨rfl, hbb⟩
        have hbb := below_then HK3.out hbb (Nat.le_refl _)
        have HK4 := Lib.hid hbb
        clear hbb HC
        have HF := Lib.hid (below_then HB.out HK4.out (Nat.le_refl _))
        clear HK1 HK2 HK3 HK4 H1 H2 H3 H4
        go_wp2
        go_ret
        exact ⟨by first | rfl | simp, HF.out⟩

theorem reads (os : Os) {H : Type} (enc : TypeId × Value → H) : ∃ places, DataW.whole enc Tryd.prog ((txc.laidWorld os).forCall (fun _ _ => 0) ⟨#[], #[.slice none 0 0], []⟩).memory Tryd.f7.params.toList Rows.namesFoldedSpec.vars false (#[.slice none 0 0] : Array Value).toList 8 = some ([.nil], [], places) :=
  ⟨[], by kernel_rfl⟩
set_option maxRecDepth 100000 in
theorem lifted (os : Os) (started : os.Started) (H : Type) (enc : TypeId × Value → H) (F : Stop.Interp) :
    ReturnsInHanded {} Tryd.checked os 7 .any ((Rows.OpenSpec.upto Rows.namesFoldedSpec).preRow enc Tryd.prog Tryd.f7 Rows.namesFoldedUptoRow.domain false Rows.namesFoldedUptoRow.laid) (((Rows.OpenSpec.upto Rows.namesFoldedSpec).at F).post enc Tryd.prog Tryd.f7 false true false false) := by
  obtain ⟨places, hx⟩ := reads os enc
  refine returnsInHanded_of_row (C := Tryd.checked) (s := (Rows.OpenSpec.upto Rows.namesFoldedSpec)) own started (by kernel_rfl) Tryd.func7
    (witness_row_at (enc := enc) (C := Tryd.checked) false (txc.laidWorld os) #[.slice none 0 0] rfl (by kernel_rfl) (by kernel_rfl) (by kernel_rfl)
      (OpenSpec.preRow_of_cond 8 hx (by kernel_rfl) (fun k hk => by cases hk; kernel_rfl) (by kernel_rfl) (txc.laid_met os _))) ?_
  intro W base args ds gs before hval0 hW hcnd hcond hsz0 hL _ _
  have hval : ∀ (j : Nat) t v, Tryd.f7.params[j]? = some t → args[j]? = some v → Value.okWide Tryd.prog W .any base t v := hval0
  have hW' := hW
  obtain ⟨p, q, hA0, hV, rfl, hfz, hnd⟩ := hW
  have hA : DataW.TrodAll enc Tryd.prog W 0 (fun _ => true) true Tryd.f7.params.toList args.toList ds p := hA0
  have hsz : (DataW.weightsEach Tryd.prog (Tryd.f7.params.toList ++ (Rows.OpenSpec.upto Rows.namesFoldedSpec).bare.plain.varTypes Tryd.prog) (ds ++ gs)).all (· ≤ reachBytes) = true := hsz0
  have hk : Rows.uptoSmall H (ds ++ gs) = true := hcond _ rfl
  rw [Tryd.params7] at hA hval hsz
  obtain ⟨v0, vs0, d0, ds0, p0, q0, hargs, rfl, rfl, h0, r_0⟩ := trodAll_cons hA
  obtain ⟨rfl, rfl, rfl⟩ := trodAll_nil r_0
  obtain rfl : args = #[v0] := by cases args; simp_all
  obtain ⟨rfl, rfl⟩ := trodVars_none hV
  obtain ⟨a0, len0, cap0, rfl⟩ := okWide_slice Tryd.underlying23 (hval 0 23 v0 rfl rfl)
  have k0 := h0
  have lt0 : ∀ x ∈ p0, x.block < W.heap.size := by obtain ⟨m, hm⟩ := k0; exact DataW.trod_lt m _ _ _ hm
  obtain ⟨x0, e0, s0, w0, l0, m0, z0⟩ := dtc.open_rowS (s := .agg [.row (.int .i64), .str]) (dtc.fit_row Tryd.underlying23 (dtc.fit_agg Tryd.underlying49 (by kernel_rfl) (dtc.fits_cons (by kernel_rfl) (dtc.fit_row Tryd.underlying47 (dtc.fit_int Tryd.underlying3 (by kernel_rfl)) (by kernel_rfl) (by kernel_rfl)) (dtc.fits_cons (by kernel_rfl) (dtc.fit_str Tryd.underlying9 (by kernel_rfl)) dtc.fits_nil))) (by kernel_rfl) (by kernel_rfl)) h0
  have y0 := z0 (dtc.bulk_at hk (j := 0) rfl)
  clear hA0 hval0
  have hT : txc.Tabs W := txc.tabs_of hL
  refine (walk a0 len0 cap0 x0 W e0 s0 w0 l0 m0 y0 hT).mono fun e W' ⟨he, bel⟩ => ?_
  subst he
  exact ⟨_, rfl, _, _, _, [], _, [], hW', trodAll_mk1 (shut_bool Tryd.underlying4 _), (trodAll_cons_mk (Below.trod laidOut (by kernel_rfl) (of_decide_eq_true (by kernel_rfl)) k0 bel lt0) trodAll_mk0), rfl, bel.frame _, fun h => by cases h⟩

theorem over : Rows.namesFoldedUptoRow.holds Tryd.pinned (Rows.OpenSpec.upto Rows.namesFoldedSpec) :=
  OpenClaim.holds_of_cond 7 Tryd.f7 rfl rfl rfl rfl rfl rfl rfl ⟨rfl, rfl, rfl, rfl, rfl⟩ rfl rfl rfl rfl rfl (by kernel_rfl) Tryd.func7 (by kernel_rfl)
    (of_decide_eq_true (by kernel_rfl)) (by unfold Func.isWrapper; first | (rw [if_pos (by decide +kernel)]; kernel_rfl) | (rw [if_neg (by decide +kernel)]; exact ⟨rfl, rfl⟩))
    (fun os started H enc _ F => by rw [OpenClaim.pre_eq_preRow]; exact lifted os started H enc F)

theorem plain (f : FuncId) (fn : Func) (hf : Tryd.pinned.checked.prog.funcNamed "warder/warderlaw09.NamesFolded" = some f) (hfn : Tryd.pinned.checked.prog.funcs[f]? = some fn) :
    true = Tryd.pinned.checked.prog.looks [] ∧ ∀ (j : Nat) t, fn.params[j]? = some t → Tryd.pinned.checked.prog.wantsStandIn t = false := by
  obtain rfl : f = 7 := Option.some.inj ((show Tryd.prog.funcNamed "warder/warderlaw09.NamesFolded" = some 7 by kernel_rfl).symm.trans hf) |>.symm
  obtain rfl : fn = Tryd.f7 := (Option.some.inj (Tryd.func7.symm.trans hfn)).symm
  refine ⟨by kernel_rfl, fun j t ht => ?_⟩
  rw [Tryd.params7] at ht
  match j, ht with
    | 0, ht => obtain rfl : t = 23 := (Option.some.inj ht).symm; exact (show Tryd.prog.wantsStandIn 23 = false by kernel_rfl)
    | j + 1, ht => simp at ht

theorem proved : Rows.NamesFoldedUptoCardSaid :=
  Claim7.holds_tied_plain_at .later [] _ _ _ _ over (fun _ h => by cases h) (by kernel_rfl) (fun _ h => by cases h) namesFoldedUpto_row_tie rfl ⟨rfl, rfl⟩ (by kernel_rfl) rfl plain (by kernel_rfl)
#print axioms proved
end Go.Proofs.YthcancakkkjpaaaDoor.namesFoldedUpto
