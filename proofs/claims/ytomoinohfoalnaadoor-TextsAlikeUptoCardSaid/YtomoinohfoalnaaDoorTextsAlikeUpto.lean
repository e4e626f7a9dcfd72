/- The law TextsAlike of warderlaw03 answers true for every text of the size that the second form asks, every place and every blank, and leaves its arguments as they were; no condition else but that the library's two tables are as its text lays them. -/
import Derived.Test.YtomoinohfoalnaaDoorCards
import Derived.Test.YtomoinohfoalnaaDoorTie
import Derived.WalkKit
import Derived.ProofKit
import Derived.OpenShut
import Derived.ChangeOld
import Derived.Below
import Derived.SizedLaws
import Derived.Test.YtomoinohfoalnaaDoorTlvO
import Derived.Test.YtomoinohfoalnaaDoorTxY
import Derived.Test.YtomoinohfoalnaaDoorTxW
import Derived.Test.YtomoinohfoalnaaDoorTxR
import Derived.Test.YtomoinohfoalnaaDoorTxAJ
namespace Go.Proofs.YtomoinohfoalnaaDoor.textsAlikeUpto
open Go.ChangeShapes Go.WideShapes Go.ChangeAt Go.RowKit
set_option linter.unusedVariables false

theorem own : ownKnob Tryd.prog.godebug = none := by kernel_rfl
theorem laidOut : laidOutB Tryd.prog = true := by kernel_rfl

open Go.Proofs.YtomoinohfoalnaaDoor.tlvc Go.Proofs.YtomoinohfoalnaaDoor.txc Go.Proofs.YtomoinohfoalnaaDoor.txm
theorem belowN_ {B : Nat} {a w : World} (h : Below B a w) : ∀ q, Below B a (w.drewN q)
  | 0 => h
  | q + 1 => (belowN_ h q).drew
theorem list_ne {A : ByteArray} (h : ¬ A = ⟨#[]⟩) : ¬ A.toList = [] := fun e => h (by
  rw [ByteArray.toList_eq] at e
  apply ByteArray.ext
  apply Array.ext'
  exact e)
theorem prepR_len (rs : List Int) : (prepR rs).length ≤ rs.length := by
  rw [← prep2_eq]
  have h1 := fold2_len (l1 rs) []
  have h2 := l1_len rs
  unfold trimZ
  split
  · rw [List.length_take]; simp at h1; omega
  · simp at h1; omega
theorem prepF_size (s : ByteArray) : (⟨(prepF s).toArray⟩ : ByteArray).size ≤ 4 * s.size := by
  have h1 := enc_len (prepR (runes s))
  have h2 := prepR_len (runes s)
  have h3 : (runes s).length ≤ s.size := runesF_len s _ _
  show (prepF s).toArray.size ≤ _
  rw [List.size_toArray]
  unfold prepF
  omega
/-- What has been parted: nothing, or a text that is prepared alike. -/
def Parted (s t : ByteArray) : Prop := t = ⟨#[]⟩ ∨ (prepF t = prepF s ∧ t.size ≤ 4194304)
def BB (b : ByteArray) : Prop := BlankB b ∧ b.size ≤ 3
theorem bbs : BB ⟨#[32]⟩ ∧ BB ⟨#[9]⟩ ∧ BB ⟨#[194, 160]⟩ ∧ BB ⟨#[227, 128, 128]⟩ ∧ BB ⟨#[226, 128, 131]⟩ :=
  ⟨⟨blankBs.1, by decide⟩, ⟨blankBs.2.1, by decide⟩, ⟨blankBs.2.2.1, by decide⟩, ⟨blankBs.2.2.2.1, by decide⟩, ⟨blankBs.2.2.2.2, by decide⟩⟩
/-- How far the great letters have come. -/
def half (s : ByteArray) (k j : Nat) : Int := if j < k then upI (numAt s j) else numAt s j
theorem half_step {w : World} {g : Nat} {s : ByteArray} {k : Nat} (h : Gr w g s.size (half s k)) (e : upI (numAt s k) = numAt s k) : Gr w g s.size (half s (k + 1)) :=
  h.congr fun j hj => by
    unfold half
    by_cases h1 : j < k
    · rw [if_pos h1, if_pos (by omega)]
    · by_cases h2 : j = k
      · subst h2; rw [if_neg h1, if_pos (by omega), e]
      · rw [if_neg h1, if_neg (by omega)]
theorem half_set {w : World} {g : Nat} {s : ByteArray} {k : Nat} (hk : k < s.size) (h : Gr w g s.size (half s k)) {z : Int} (e : upI (numAt s k) = z) : Gr (w.setCell ⟨g, k, none⟩ (.int .u8 z)) g s.size (half s (k + 1)) :=
  (h.set hk z).congr fun j hj => by
    unfold half
    by_cases h2 : j = k
    · subst h2; rw [if_pos rfl, if_pos (by omega), e]
    · by_cases h1 : j < k
      · rw [if_neg h2, if_pos h1, if_pos (by omega)]
      · rw [if_neg h2, if_neg h1, if_neg (by omega)]
theorem half_bys {w : World} {g : Nat} {s : ByteArray} (h : Gr w g s.size (half s s.size)) : Bys w (some ⟨g, 0, none⟩) s.size ((List.range s.size).map fun j => upI (numAt s j)) := by
  have e : ∀ j, j < s.size → ((List.range s.size).map fun j => upI (numAt s j)).getD j 0 = upI (numAt s j) := fun j hj => by
    rw [List.getD_eq_getElem?_getD, List.getElem?_map, List.getElem?_range hj]; rfl
  refine ⟨by simp, fun x hx => ?_, fun hn => ⟨g, 0, rfl, h.1, fun j hj => ?_⟩⟩
  · simp only [List.mem_map, List.mem_range] at hx
    obtain ⟨j, _, rfl⟩ := hx
    have := numAt_bd s j
    unfold upI; split <;> omega
  · rw [Nat.zero_add, (h.2 j hj).1, e j hj]
    unfold half; rw [if_pos hj]
theorem half_text (s : ByteArray) : prepF (strOfNums ((List.range s.size).map fun j => upI (numAt s j))) = prepF s := by
  have e : ∀ j, j < s.size → ((List.range s.size).map fun j => upI (numAt s j)).getD j 0 = upI (numAt s j) := fun j hj => by
    rw [List.getD_eq_getElem?_getD, List.getElem?_map, List.getElem?_range hj]; rfl
  rw [up_text (by simp) e, prepF_up]

set_option maxRecDepth 100000 in
set_option maxHeartbeats 8000000 in
theorem walk (a0 : ByteArray) (a1 : Int) (a2 : Int) (w : World) (w0 : a0.size ≤ maxLen) (r0 : a0.size ≤ 1048576) (w1 : (Lit.int .u16 a1).wf = true) (w2 : (Lit.int .u8 a2).wf = true) (hT : txc.Tabs w) :
    Calls Tryd.prog 4 #[.string a0, .int .u16 a1, .int .u8 a2] w fun e w' => e = .returned (.bool true) ∧ Below w.heap.size w w' := by
  have hb2 := bounds_u8 w2
  have hb1 := bounds_u16 w1
  obtain ⟨P, hP⟩ : ∃ b : ByteArray, (⟨(prepF a0).toArray⟩ : ByteArray) = b := ⟨_, rfl⟩
  have hPP : (⟨(prepF P).toArray⟩ : ByteArray) = P := by rw [← hP, prepF_idem]
  have sP : P.size ≤ 4194304 := by rw [← hP]; have := prepF_size a0; omega
  have HP := Lib.hid hP
  have HPP := Lib.hid hPP
  have h5 : (0 : Int) ≤ a2 % 5 ∧ a2 % 5 ≤ 4 := by omega
  have ht5 : Int.tmod a2 5 = a2 % 5 := Int.tmod_eq_emod_of_nonneg (by omega)
  clear hP hPP
  go_enter Tryd.func4, Tryd.ntmps4
  go_wp2_with fail
  refine (head_any _).mono ?_
  rintro e wa ⟨rfl, hba⟩
  go_wp2_with fail
  refine (prep_any _ _ (by omega)).mono ?_
  rw [HP.out]
  rintro e wb ⟨rfl, hbb⟩
  have hB1 := then_ hba hbb
  clear hba hbb
  go_upto_region 4 with fail
  go_cut [10] from 18 to 25 (fun b wx => ∃ B, b = .string B ∧ BB B ∧ Below w.heap.size w wx)
  case first =>
    have hs : w.heap.size ≤ wb.heap.size := hB1.size
    have hw : a2 % 5 = 0 ∨ a2 % 5 = 1 ∨ a2 % 5 = 2 ∨ a2 % 5 = 3 ∨ a2 % 5 = 4 := by omega
    rcases hw with hw | hw | hw | hw | hw
    · rw [hw] at ht5 h5
      go_wp2_with fail
      go_meet
      exact ⟨_, rfl, bbs.1, hB1.alloc hs _⟩
    · rw [hw] at ht5 h5
      go_wp2_with fail
      go_meet
      exact ⟨_, rfl, bbs.2.1, hB1.alloc hs _⟩
    · rw [hw] at ht5 h5
      go_wp2_with fail
      go_meet
      exact ⟨_, rfl, bbs.2.2.1, hB1.alloc hs _⟩
    · rw [hw] at ht5 h5
      go_wp2_with fail
      go_meet
      exact ⟨_, rfl, bbs.2.2.2.1, hB1.alloc hs _⟩
    · rw [hw] at ht5 h5
      go_wp2_with fail
      go_meet
      exact ⟨_, rfl, bbs.2.2.2.2, hB1.alloc hs _⟩
  case rest =>
    obtain ⟨B, rfl, ⟨hB, sB⟩, hBx⟩ := hcut
    have mixed : Tryd.prog.follows Departure.mixedOrders = true := by kernel_rfl
    have hgr0 := gr_new wc.drew a0 (grownCap wc a0.size 0 5) 5
    have hcv := run_bytes_of_string (P := Tryd.prog) wc 9 22 5 a0 Tryd.underlying9 Tryd.underlying22 Tryd.underlying5
    have hbel0 : Below w.heap.size w (wc.drew.alloc (.cells (bytesRow a0 (grownCap wc a0.size 0 5)) 5 ((bytesRow a0 (grownCap wc a0.size 0 5)).size, (bytesRow a0 (grownCap wc a0.size 0 5)).size + 1))) := hBx.drew.alloc hBx.size _
    obtain ⟨cap, hcap⟩ : ∃ cap, grownCap wc a0.size 0 5 = cap := ⟨_, rfl⟩
    rw [hcap] at hgr0 hcv hbel0
    obtain ⟨W2, hW2⟩ : ∃ W2, wc.drew.alloc (.cells (bytesRow a0 cap) 5 ((bytesRow a0 cap).size, (bytesRow a0 cap).size + 1)) = W2 := ⟨_, rfl⟩
    rw [hW2] at hgr0 hcv hbel0
    obtain ⟨g, hg⟩ : ∃ g, wc.heap.size = g := ⟨_, rfl⟩
    have hgb : w.heap.size ≤ g := by rw [← hg]; exact hBx.size
    have hgr0 : Gr W2 g a0.size (half a0 0) := by rw [← hg]; exact hgr0
    rw [hg] at hcv
    clear hW2 hcap hBx hB1 hg hT h5 ht5 hb2
    go_wp2_with fail
    go_loopg [12, 13] (a0.size + 1) (fun gk s12 s13 wr => ∃ (k : Nat) (sp : ByteArray), s12 = .string sp ∧ s13 = .int .i64 k ∧ k ≤ a0.size ∧ a0.size - k < gk ∧ Parted a0 sp ∧ Gr wr g a0.size (half a0 k) ∧ Below w.heap.size w wr)
    case atStart => exact ⟨0, _, rfl, rfl, by omega, by omega, .inl rfl, hgr0, hbel0⟩
    case round =>
      obtain ⟨k, sp, rfl, rfl, hk, hgk, hpart, hgr, hbel⟩ := hrel
      clear hgr0 hbel0 hcv
      have hHP := Lib.hid hpart
      have HB := Lib.hid hB
      clear hpart
      by_cases hlt : k < a0.size
      · obtain ⟨gk', rfl⟩ : ∃ g', gk = g' + 1 := ⟨gk - 1, by omega⟩
        obtain ⟨hcell, hfro⟩ := hgr.2 k hlt
        have hnat : half a0 k k = numAt a0 k := by unfold half; rw [if_neg (by omega)]
        rw [hnat] at hcell
        have hbd := numAt_bd a0 k
        have hidx : ((a0[k]'hlt).toNat : Int) = numAt a0 k := by unfold numAt; rw [show a0.get! k = a0[k] from by show a0.data[k]! = _; rw [getElem!_pos]; rfl]
        obtain ⟨x, hx⟩ : ∃ x, numAt a0 k = x := ⟨_, rfl⟩
        rw [hx] at hcell hbd hidx
        have hkn : (k : Int) < (a0.size : Int) := by omega
        by_cases hup : 97 ≤ x ∧ x ≤ 122
        · have hu1 := hup.1
          have hu2 := hup.2
          have hne : ¬ x = 32 := by omega
          have hneb : (x == 32) = false := by simp; omega
          have hset := half_set hlt hgr (z := x - 32) (by rw [hx]; unfold upI; rw [if_pos hup])
          have hsub : IntKind.u8.wrap (x - 32) = x - 32 := by rw [IntKind.wrap_u8]; omega
          go_wp2_with fail
          go_wp2
          go_roundg gk'
          case measure => omega
          case rel => exact ⟨k + 1, sp, rfl, by go_num, by omega, by omega, hHP.out, hset, hbel.setCell hgb _⟩
        · have hst := half_step hgr (by rw [hx]; unfold upI; rw [if_neg hup])
          have hlet : (97 ≤ x ∧ ¬ x ≤ 122) ∨ ¬ 97 ≤ x := by omega
          by_cases h32 : x = 32
          · subst h32
            have hmod : Int.tmod a1 (a0.size : Int) = a1 % (a0.size : Int) := Int.tmod_eq_emod_of_nonneg (by omega)
            have hnz : ¬ (a0.size : Int) = 0 := by omega
            have hnz' : ((a0.size : Int) == 0) = false := beq_eq_false_iff_ne.2 hnz
            have hmb : 0 ≤ a1 % (a0.size : Int) ∧ a1 % (a0.size : Int) < (a0.size : Int) := ⟨Int.emod_nonneg _ hnz, Int.emod_lt_of_pos _ (by omega)⟩
            obtain ⟨M, hM⟩ : ∃ M, a1 % (a0.size : Int) = M := ⟨_, rfl⟩
            rw [hM] at hmod hmb
            have hMw : IntKind.i64.wrap M = M := IntWalk.i64_in _ (by omega)
            by_cases hat : (k : Int) = M
            · subst hat
              have hke : (k : Int) ≤ (a0.size : Int) := by omega
              have hsp := split_text HB.out hlt hx
              have hss : (a0.extract 0 k ++ B ++ B ++ a0.extract k a0.size).size ≤ 4194304 := by
                rw [ByteArray.size_append, ByteArray.size_append, ByteArray.size_append, ByteArray.size_extract, ByteArray.size_extract]; omega
              have HS := Lib.hid (And.intro hsp hss)
              clear hsp hss hM
              go_wp2_with fail
              go_big_quiet_o (fail)
              go_wp2
              go_roundg gk'
              case measure => omega
              case rel => exact ⟨k + 1, _, rfl, by go_num, by omega, by omega, .inr HS.out, hst, belowN_ hbel _⟩
            · have hatb : ((k : Int) == M) = false := by simpa using hat
              clear hM
              go_wp2
              go_roundg gk'
              case measure => omega
              case rel => exact ⟨k + 1, sp, rfl, by go_num, by omega, by omega, hHP.out, hst, hbel⟩
          · have h32b : (x == 32) = false := by simpa using h32
            rcases hlet with ⟨hl1, hl2⟩ | hl1
            · go_wp2
              go_roundg gk'
              case measure => omega
              case rel => exact ⟨k + 1, sp, rfl, by go_num, by omega, by omega, hHP.out, hst, hbel⟩
            · go_wp2
              go_roundg gk'
              case measure => omega
              case rel => exact ⟨k + 1, sp, rfl, by go_num, by omega, by omega, hHP.out, hst, hbel⟩
      · obtain rfl : k = a0.size := by omega
        have hab := prepF_about HB.out a0
        have hup := half_text a0
        have hbys := half_bys hgr
        have sab : (B ++ a0 ++ B ++ ⟨#[32]⟩).size ≤ 8796093022208 := by rw [ByteArray.size_append, ByteArray.size_append, ByteArray.size_append]; show B.size + a0.size + B.size + 1 ≤ _; omega
        have sup : (strOfNums ((List.range a0.size).map fun j => upI (numAt a0 j))).size ≤ 8796093022208 := by rw [strOfNums_size]; simp; omega
        obtain ⟨Y, hY⟩ : ∃ Y, (List.range a0.size).map (fun j => upI (numAt a0 j)) = Y := ⟨_, rfl⟩
        rw [hY] at hup hbys sup
        have eab : (⟨(prepF (B ++ a0 ++ B ++ ⟨#[32]⟩)).toArray⟩ : ByteArray) = P := by rw [hab]; exact HP.out
        have eup : (⟨(prepF (strOfNums Y)).toArray⟩ : ByteArray) = P := by rw [hup]; exact HP.out
        have EAB := Lib.hid eab
        have EUP := Lib.hid eup
        have SAB := Lib.hid sab
        have SUP := Lib.hid sup
        clear hab hup eab eup sab sup hY hgr HB hB
        rcases hHP.out with hsp | ⟨hsp1, hsp2⟩
        · subst hsp
          clear hHP
          go_wp2_with fail
          refine (prep_any _ _ (by omega)).mono ?_
          rw [HPP.out]
          rintro e wd ⟨rfl, hbd⟩
          have hB2 := then_ hbel hbd
          have hbys2 := hbys.below hbd
          clear hbel hbd hbys
          go_wp2_with fail
          refine (prep_any _ _ SAB.out).mono ?_
          rw [EAB.out]
          rintro e we ⟨rfl, hbe⟩
          have hB3 := then_ hB2 hbe
          have hcs := str_now (hbys2.below hbe) cap
          clear hB2 hbe hbys2
          go_wp2_with fail
          refine (prep_any _ _ SUP.out).mono ?_
          rw [EUP.out]
          rintro e wf ⟨rfl, hbf⟩
          have hB4 := then_ hB3 hbf
          clear hB3 hbf hcs HPP HP EAB EUP SAB SUP
          go_wp2
          go_ret
          exact ⟨rfl, hB4⟩
        · by_cases hsp0 : sp = ⟨#[]⟩
          · subst hsp0
            clear hHP hsp1 hsp2
            go_wp2_with fail
            refine (prep_any _ _ (by omega)).mono ?_
            rw [HPP.out]
            rintro e wd ⟨rfl, hbd⟩
            have hB2 := then_ hbel hbd
            have hbys2 := hbys.below hbd
            clear hbel hbd hbys
            go_wp2_with fail
            refine (prep_any _ _ SAB.out).mono ?_
            rw [EAB.out]
            rintro e we ⟨rfl, hbe⟩
            have hB3 := then_ hB2 hbe
            have hcs := str_now (hbys2.below hbe) cap
            clear hB2 hbe hbys2
            go_wp2_with fail
            refine (prep_any _ _ SUP.out).mono ?_
            rw [EUP.out]
            rintro e wf ⟨rfl, hbf⟩
            have hB4 := then_ hB3 hbf
            clear hB3 hbf hcs HPP HP EAB EUP SAB SUP
            go_wp2
            go_ret
            exact ⟨rfl, hB4⟩
          · have h10 := list_ne hsp0
            have h1' : (sp.toList == []) = false := by simpa using h10
            have h1'' : sp.toList.isEmpty = false := by simpa using h10
            have esp : (⟨(prepF sp).toArray⟩ : ByteArray) = P := by rw [hsp1]; exact HP.out
            have ESP := Lib.hid esp
            clear hHP hsp1 esp
            go_wp2_with fail
            refine (prep_any _ _ (by omega)).mono ?_
            rw [HPP.out]
            rintro e wd ⟨rfl, hbd⟩
            have hB2 := then_ hbel hbd
            have hbys2 := hbys.below hbd
            clear hbel hbd hbys
            go_wp2_with fail
            refine (prep_any _ _ SAB.out).mono ?_
            rw [EAB.out]
            rintro e we ⟨rfl, hbe⟩
            have hB3 := then_ hB2 hbe
            have hcs := str_now (hbys2.below hbe) cap
            clear hB2 hbe hbys2
            go_wp2_with fail
            refine (prep_any _ _ SUP.out).mono ?_
            rw [EUP.out]
            rintro e wf ⟨rfl, hbf⟩
            have hB4 := then_ hB3 hbf
            clear hB3 hbf hcs HPP EAB EUP SAB SUP
            go_wp2_with fail
            refine (prep_any _ _ (by omega)).mono ?_
            rw [ESP.out]
            rintro e wg ⟨rfl, hbg⟩
            have hB5 := then_ hB4 hbg
            clear hB4 hbg ESP HP
            go_wp2
            go_ret
            exact ⟨rfl, hB5⟩

theorem reads (os : Os) {H : Type} (enc : TypeId × Value → H) : ∃ places, DataW.whole enc Tryd.prog ((txc.laidWorld os).forCall (fun _ _ => 0) ⟨#[], #[.string ⟨#[]⟩, .int .u16 0, .int .u8 0], []⟩).memory Tryd.f4.params.toList Rows.textsAlikeSpec.vars false (#[.string ⟨#[]⟩, .int .u16 0, .int .u8 0] : Array Value).toList 8 = some ([.lit (.string []), .lit (.int .u16 0), .lit (.int .u8 0)], [], places) :=
  ⟨[], by kernel_rfl⟩
set_option maxRecDepth 100000 in
theorem lifted (os : Os) (started : os.Started) (H : Type) (enc : TypeId × Value → H) (F : Stop.Interp) :
    ReturnsInHanded {} Tryd.checked os 4 .any ((Rows.OpenSpec.upto Rows.textsAlikeSpec).preRow enc Tryd.prog Tryd.f4 Rows.textsAlikeUptoRow.domain false Rows.textsAlikeUptoRow.laid) (((Rows.OpenSpec.upto Rows.textsAlikeSpec).at F).post enc Tryd.prog Tryd.f4 false true false false) := by
  obtain ⟨places, hx⟩ := reads os enc
  refine returnsInHanded_of_row (C := Tryd.checked) (s := (Rows.OpenSpec.upto Rows.textsAlikeSpec)) own started (by kernel_rfl) Tryd.func4
    (witness_row_at (enc := enc) (C := Tryd.checked) false (txc.laidWorld os) #[.string ⟨#[]⟩, .int .u16 0, .int .u8 0] rfl (by kernel_rfl) (by kernel_rfl) (by kernel_rfl)
      (OpenSpec.preRow_of_cond 8 hx (by kernel_rfl) (fun k hk => by cases hk; kernel_rfl) (by kernel_rfl) (txc.laid_met os _))) ?_
  intro W base args ds gs before hval0 hW hcnd hcond hsz0 hL _ _
  have hval : ∀ (j : Nat) t v, Tryd.f4.params[j]? = some t → args[j]? = some v → Value.okWide Tryd.prog W .any base t v := hval0
  have hW' := hW
  obtain ⟨p, q, hA0, hV, rfl, hfz, hnd⟩ := hW
  have hA : DataW.TrodAll enc Tryd.prog W 0 (fun _ => true) true Tryd.f4.params.toList args.toList ds p := hA0
  have hsz : (DataW.weightsEach Tryd.prog (Tryd.f4.params.toList ++ (Rows.OpenSpec.upto Rows.textsAlikeSpec).bare.plain.varTypes Tryd.prog) (ds ++ gs)).all (· ≤ reachBytes) = true := hsz0
  have hk : Rows.uptoSmall H (ds ++ gs) = true := hcond _ rfl
  rw [Tryd.params4] at hA hval hsz
  obtain ⟨v0, vs0, d0, ds0, p0, q0, hargs, rfl, rfl, h0, r_0⟩ := trodAll_cons hA
  obtain ⟨v1, vs1, d1, ds1, p1, q1, rfl, rfl, rfl, h1, r_1⟩ := trodAll_cons r_0
  obtain ⟨v2, vs2, d2, ds2, p2, q2, rfl, rfl, rfl, h2, r_2⟩ := trodAll_cons r_1
  obtain ⟨rfl, rfl, rfl⟩ := trodAll_nil r_2
  obtain rfl : args = #[v0, v1, v2] := by cases args; simp_all
  obtain ⟨rfl, rfl⟩ := trodVars_none hV
  obtain ⟨a0, rfl, rfl, rfl, w0⟩ := Go.ChangeMaps.open_string Tryd.underlying9 (hval 0 9 v0 rfl rfl) h0
  have r0 : a0.size ≤ 1048576 := txc.str_small hk (j := 0) rfl
  obtain ⟨a1, rfl, rfl, rfl, w1⟩ := open_int Tryd.underlying25 (hval 1 25 v1 rfl rfl) h1
  obtain ⟨a2, rfl, rfl, rfl, w2⟩ := open_int Tryd.underlying5 (hval 2 5 v2 rfl rfl) h2
  clear hA0 hval0
  have hT : txc.Tabs W := txc.tabs_of hL
  refine (walk a0 a1 a2 W w0 r0 w1 w2 hT).mono fun e W' ⟨he, bel⟩ => ?_
  subst he
  exact ⟨_, rfl, _, _, _, [], _, [], hW', trodAll_mk1 (shut_bool Tryd.underlying4 _), (trodAll_cons_mk (Go.ChangeMaps.shut_string Tryd.underlying9 w0) (trodAll_cons_mk (shut_int Tryd.underlying25 w1) (trodAll_cons_mk (shut_int Tryd.underlying5 w2) trodAll_mk0))), rfl, bel.frame _, fun h => by cases h⟩

theorem over : Rows.textsAlikeUptoRow.holds Tryd.pinned (Rows.OpenSpec.upto Rows.textsAlikeSpec) :=
  OpenClaim.holds_of_cond 4 Tryd.f4 rfl rfl rfl rfl rfl rfl rfl ⟨rfl, rfl, rfl, rfl, rfl⟩ rfl rfl rfl rfl rfl (by kernel_rfl) Tryd.func4 (by kernel_rfl)
    (of_decide_eq_true (by kernel_rfl)) (by unfold Func.isWrapper; first | (rw [if_pos (by decide +kernel)]; kernel_rfl) | (rw [if_neg (by decide +kernel)]; exact ⟨rfl, rfl⟩))
    (fun os started H enc _ F => by rw [OpenClaim.pre_eq_preRow]; exact lifted os started H enc F)

theorem plain (f : FuncId) (fn : Func) (hf : Tryd.pinned.checked.prog.funcNamed "warder/warderlaw03.TextsAlike" = some f) (hfn : Tryd.pinned.checked.prog.funcs[f]? = some fn) :
    true = Tryd.pinned.checked.prog.looks [] ∧ ∀ (j : Nat) t, fn.params[j]? = some t → Tryd.pinned.checked.prog.wantsStandIn t = false := by
  obtain rfl : f = 4 := Option.some.inj ((show Tryd.prog.funcNamed "warder/warderlaw03.TextsAlike" = some 4 by kernel_rfl).symm.trans hf) |>.symm
  obtain rfl : fn = Tryd.f4 := (Option.some.inj (Tryd.func4.symm.trans hfn)).symm
  refine ⟨by kernel_rfl, fun j t ht => ?_⟩
  rw [Tryd.params4] at ht
  match j, ht with
    | 0, ht => obtain rfl : t = 9 := (Option.some.inj ht).symm; exact (show Tryd.prog.wantsStandIn 9 = false by kernel_rfl)
    | 1, ht => obtain rfl : t = 25 := (Option.some.inj ht).symm; exact (show Tryd.prog.wantsStandIn 25 = false by kernel_rfl)
    | 2, ht => obtain rfl : t = 5 := (Option.some.inj ht).symm; exact (show Tryd.prog.wantsStandIn 5 = false by kernel_rfl)
    | j + 3, ht => simp at ht

theorem proved : Rows.TextsAlikeUptoCardSaid :=
  Claim7.holds_tied_plain_at .later [] _ _ _ _ over (fun _ h => by cases h) (by kernel_rfl) (fun _ h => by cases h) textsAlikeUpto_row_tie rfl ⟨rfl, rfl⟩ (by kernel_rfl) rfl plain (by kernel_rfl)
#print axioms proved
end Go.Proofs.YtomoinohfoalnaaDoor.textsAlikeUpto
