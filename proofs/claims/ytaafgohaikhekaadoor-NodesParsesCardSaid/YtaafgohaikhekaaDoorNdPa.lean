/- The document's rising; what kids' bytes come to. -/
import Derived.Test.YtaafgohaikhekaaDoorNdQ
import Derived.Test.YtaafgohaikhekaaDoorKitE
import Derived.WalkLawsBesides
import Derived.BigQuiet
namespace Go.Proofs.YtaafgohaikhekaaDoor.ndc
open Go.RowKit Go.Proofs.YtaafgohaikhekaaDoor.tlvc Go.Proofs.YtaafgohaikhekaaDoor.tlvd Go.Proofs.YtaafgohaikhekaaDoor.txc
set_option linter.unusedVariables false
set_option linter.unusedSimpArgs false
/-- Do texts of bytes not fall? -/
def risingB : List (List Int) → Bool
  | [] => true
  | a :: r => match r with
    | [] => true
    | b :: _ => !behind a b && risingB r
theorem rising_two (a b : List Int) (r : List (List Int)) : risingB (a :: b :: r) = (!behind a b && risingB (b :: r)) := by conv => lhs; unfold risingB
theorem rising_at {l : List (List Int)} {i : Nat} (h : i + 1 < l.length) : risingB (l.drop i) = (!behind (l.getD i []) (l.getD (i + 1) []) && risingB (l.drop (i + 1))) := by
  rw [List.drop_eq_getElem_cons (by omega), List.drop_eq_getElem_cons h, rising_two]
  simp [List.getD_eq_getElem?_getD, List.getElem?_eq_getElem (show i < l.length by omega), List.getElem?_eq_getElem h]
theorem rising_end {l : List (List Int)} {i : Nat} (h : l.length ≤ i + 1) : risingB (l.drop i) = true := by
  rcases Nat.lt_or_ge i l.length with h1 | h1
  · rw [List.drop_eq_getElem_cons h1, List.drop_eq_nil_of_le (by omega)]; rfl
  · rw [List.drop_eq_nil_of_le h1]; rfl
theorem str_gt {xs ys : List Int} {X Y : ByteArray} (hX : strOfNums xs = X) (hY : strOfNums ys = Y) : (!(Op.bytesLess X.toList Y.toList || X.toList == Y.toList)) = behind xs ys := by
  subst hX hY
  unfold behind; rw [Lib.strOfNums_toList, Lib.strOfNums_toList]; exact gt8_string _ _
set_option maxRecDepth 100000 in
set_option maxHeartbeats 8000000 in
theorem rising_any (A : Option Addr) (n c : Nat) (l : List (List Int)) (w : World) (hl : Bss w A n l) (hc : n ≤ c) (hm : c ≤ maxLen) :
    Calls Tryd.prog 33 #[.slice A n c] w fun e w' => e = .returned (.bool (risingB l)) ∧ Below w.heap.size w w' := by
  have hn9 : c ≤ 9223372036854775807 := by unfold maxLen at hm; omega
  obtain ⟨ANS, hANS⟩ : ∃ z, risingB l = z := ⟨_, rfl⟩
  rw [hANS]
  have hln := hl.1
  have HL := Lib.hid hl
  clear hl
  by_cases hn1 : n ≤ 1
  · have hE : ANS = true := by
      rw [← hANS]
      have := rising_end (l := l) (i := 0) (by omega)
      simpa using this
    have hz : ¬ (1 : Int) < (n : Int) := by omega
    clear hANS
    subst hE
    go_enter Tryd.func33, Tryd.ntmps33
    go_wp2_with fail
    refine wp_loop_rounds 1 ?_; rw [rounds_succ]; go_wp2
    go_ret
    exact ⟨rfl, Below.refl _ _⟩
  · have hst : risingB (l.drop (1 - 1)) = ANS := hANS
    have HST := Lib.hid hst
    clear hst hANS
    go_enter Tryd.func33, Tryd.ntmps33
    go_wp2_with fail
    go_loopg [3] (n + 1) (fun gk s3 wx => ∃ (i : Nat), s3 = .int .i64 i ∧ 1 ≤ i ∧ i ≤ n ∧ n - i < gk ∧ Hid (risingB (l.drop (i - 1)) = ANS) ∧ Below w.heap.size w wx)
    case atStart => exact ⟨1, rfl, by omega, by omega, by omega, HST, Below.refl _ _⟩
    case round =>
      obtain ⟨i, rfl, hi1, hi, hgk, hq, hbel⟩ := hrel
      by_cases hlt : i < n
      · have hltz : (i : Int) < (n : Int) := by omega
        obtain ⟨gk', rfl⟩ : ∃ g', gk = g' + 1 := ⟨gk - 1, by omega⟩
        obtain ⟨j, hj⟩ : ∃ j, i = j + 1 := ⟨i - 1, by omega⟩
        obtain ⟨b, off, rfl, hb, hcell⟩ := HL.out.2 (by omega)
        obtain ⟨A1, n1, c1, q1, y1, _⟩ := hcell j (by omega)
        obtain ⟨A2, n2, c2, q2, y2, _⟩ := hcell i hlt
        have p1 : wr.cell? ⟨b, off + j, none⟩ = some (.slice A1 n1 c1) := (hbel.cell (p := ⟨b, off + j, none⟩) hb).trans q1
        have p2 : wr.cell? ⟨b, off + i, none⟩ = some (.slice A2 n2 c2) := (hbel.cell (p := ⟨b, off + i, none⟩) hb).trans q2
        have s1 := fun (q : Nat) => txc.str_now ((y1.below hbel).drewN q) c1
        have s2 := fun (q : Nat) => txc.str_now ((y2.below hbel).drewN q) c2
        have hst : risingB (l.drop j) = (!behind (l.getD j []) (l.getD i []) && risingB (l.drop i)) := by
          subst hj
          exact rising_at (l := l) (i := j) (by omega)
        have hq2 := hq.out
        rw [show i - 1 = j by omega, hst] at hq2
        obtain ⟨X, hX⟩ : ∃ z, strOfNums (l.getD j []) = z := ⟨_, rfl⟩
        obtain ⟨Y, hY⟩ : ∃ z, strOfNums (l.getD i []) = z := ⟨_, rfl⟩
        have hgt := str_gt hX hY
        rw [hX] at s1
        rw [hY] at s2
        obtain ⟨r, hr⟩ : ∃ z, behind (l.getD j []) (l.getD i []) = z := ⟨_, rfl⟩
        rw [hr] at hq2 hgt
        have Q2 := Lib.hid hq2
        have hwj : IntKind.i64.wrap ((i : Int) - 1) = (j : Int) := by rw [IntWalk.i64_in _ (by omega)]; omega
        have i1 : (0 : Int) ≤ (i : Int) := by omega
        have i3 : (0 : Int) ≤ (j : Int) := by omega
        have i4 : (j : Int) < (n : Int) := by omega
        have hji : j < i := by omega
        obtain ⟨l1, hl1⟩ : ∃ z, Op.bytesLess X.toList Y.toList = z := ⟨_, rfl⟩
        obtain ⟨e1, he1⟩ : ∃ z, (X.toList == Y.toList) = z := ⟨_, rfl⟩
        rw [hl1, he1] at hgt
        clear hst hq2 hr hX hY y1 y2 q1 q2 hcell hj hq
        have hne : e1 = false → ¬ X.toList = Y.toList := fun h => by rw [h] at he1; simpa using he1
        have heq : e1 = true → X.toList = Y.toList := fun h => by rw [h] at he1; simpa using he1
        go_wp2_with fail
        cases r with
        | true =>
          obtain ⟨rfl, rfl⟩ : l1 = false ∧ e1 = false := by simpa using hgt
          have hE : ANS = false := by rw [← Q2.out]; rfl
          have n1' := hne rfl
          clear hne heq hgt Q2
          subst hE
          go_quiet (fail)
          go_wp2
          go_ret
          exact ⟨rfl, ⟨hbel.os, hbel.tape, hbel.output, hbel.size, hbel.block⟩⟩
        | false =>
          have Q3 : Hid (risingB (l.drop (i + 1 - 1)) = ANS) := Lib.hid (by have := Q2.out; exact this)
          clear Q2
          cases l1
          · cases e1
            · cases hgt
            · have n1' := heq rfl
              have N1 := Lib.hid n1'
              clear hne heq hgt n1'
              go_quiet (fail)
              go_wp2
              go_roundg gk'
              case measure => omega
              case rel => exact ⟨i + 1, by go_num, by omega, by omega, by omega, Q3, ⟨hbel.os, hbel.tape, hbel.output, hbel.size, hbel.block⟩⟩
          · clear hne heq hgt
            go_quiet (fail)
            go_wp2
            go_roundg gk'
            case measure => omega
            case rel => exact ⟨i + 1, by go_num, by omega, by omega, by omega, Q3, ⟨hbel.os, hbel.tape, hbel.output, hbel.size, hbel.block⟩⟩
      · have hltz : ¬ (i : Int) < (n : Int) := by omega
        have hE : ANS = true := by rw [← hq.out]; exact rising_end (by omega)
        clear hq HST
        subst hE
        go_wp2
        go_ret
        exact ⟨rfl, hbel⟩
/-! ### What kids' bytes come to -/
theorem add_falls : ∀ (bs : List (List Int)) (k : WK), (bs.foldl WK.add k).falls = (k.falls || !risingB (k.last :: bs))
  | [], k => by simp [risingB]
  | b :: bs, k => by
    rw [List.foldl_cons, add_falls bs, rising_two]
    unfold WK.add
    simp only
    cases behind k.last b <;> cases k.falls <;> simp
theorem rising_nil (bs : List (List Int)) : risingB ([] :: bs) = risingB bs := by
  cases bs with
  | nil => rfl
  | cons b r => rw [rising_two, behind_nil]; simp
theorem add_body : ∀ (bs : List (List Int)) (k : WK), (k.body.length ≤ 65535 → k.body.length + bs.flatten.length ≤ 65535 → (bs.foldl WK.add k).body = k.body ++ bs.flatten) ∧ (65535 < k.body.length + bs.flatten.length → 65535 < (bs.foldl WK.add k).body.length)
  | [], k => by simp
  | b :: bs, k => by
    rw [List.foldl_cons]
    obtain ⟨h1, h2⟩ := add_body bs (k.add b)
    constructor
    · intro hk hl
      rw [List.flatten_cons, List.length_append] at hl
      have e : (k.add b).body = k.body ++ b := by unfold WK.add; simp only; rw [if_pos hk]
      rw [h1 (by rw [e, List.length_append]; omega) (by rw [e, List.length_append]; omega), e, List.flatten_cons, List.append_assoc]
    · intro hl
      rw [List.flatten_cons, List.length_append] at hl
      by_cases hk : k.body.length ≤ 65535
      · have e : (k.add b).body = k.body ++ b := by unfold WK.add; simp only; rw [if_pos hk]
        exact h2 (by rw [e, List.length_append]; omega)
      · have e : (k.add b).body = k.body := by unfold WK.add; simp only; rw [if_neg hk]
        exact h2 (by rw [e]; omega)
/-- All kids' bytes, or the first error. -/
def bytesL : List Nd → Nat → List (List Int) → Option (List (List Int)) × Int
  | [], _, bs => (some bs, 0)
  | n :: ns, o, bs =>
    match writeF n o with
    | .no e => (none, e)
    | .ok b => bytesL ns o (bs ++ [b])
theorem writeL_bytes : ∀ (ns : List Nd) (o : Nat) (bs : List (List Int)), writeL ns o (bs.foldl WK.add wk0) = match bytesL ns o bs with | (some l, _) => .ok (l.foldl WK.add wk0) | (none, e) => .no e
  | [], o, bs => by unfold writeL bytesL; rfl
  | n :: ns, o, bs => by
    unfold writeL bytesL
    cases hw : writeF n o with
    | no e => rfl
    | ok b =>
      simp only
      have := writeL_bytes ns o (bs ++ [b])
      rw [List.foldl_append] at this
      exact this
theorem finW_all {t : Int} (he : endlessB t = false) {l : List (List Int)} : finW t (kresF t (.ok (l.foldl WK.add wk0))) = if t = 49 ∧ risingB l = false then .no 42 else putW t l.flatten := by
  have hf : (l.foldl WK.add wk0).falls = !risingB l := by
    rw [add_falls]
    show (false || !risingB ([] :: l)) = _
    rw [rising_nil]; simp
  unfold kresF
  simp only
  rw [hf]
  by_cases h : t = 49 ∧ risingB l = false
  · rw [if_pos h, if_pos ⟨h.1, by rw [h.2]; rfl⟩]; rfl
  · rw [if_neg h, if_neg (fun k => h ⟨k.1, by simpa using k.2⟩)]
    unfold finW
    simp only
    obtain ⟨h1, h2⟩ := add_body l wk0
    by_cases hl : l.flatten.length ≤ 65535
    · rw [h1 (by show 0 ≤ 65535; omega) (by show 0 + _ ≤ 65535; omega)]; rfl
    · have hb := h2 (by show 65535 < 0 + _; omega)
      have e1 : ∀ xs : List Int, 65535 < xs.length → putW t xs = .no 2 := fun xs h => by
        have e : putF t xs = ([], 2) := by unfold putF; rw [he, if_neg (by simp), if_pos h]
        unfold putW
        rw [e]; rfl
      rw [e1 _ hb, e1 _ (by omega)]
end Go.Proofs.YtaafgohaikhekaaDoor.ndc
