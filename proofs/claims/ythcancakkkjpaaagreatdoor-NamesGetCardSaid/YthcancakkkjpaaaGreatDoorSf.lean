/- The document's TextOf; a node's two kids. -/
import Derived.Test.YthcancakkkjpaaaGreatDoorRx
import Derived.Test.YthcancakkkjpaaaGreatDoorSd
import Derived.Lib.QuietBelow
import Derived.BigQuiet
namespace Go.Proofs.YthcancakkkjpaaaGreatDoor.nmc
open Go.RowKit Go.Proofs.YthcancakkkjpaaaGreatDoor.tlvc Go.Proofs.YthcancakkkjpaaaGreatDoor.tlvd Go.Proofs.YthcancakkkjpaaaGreatDoor.ndc Go.Proofs.YthcancakkkjpaaaGreatDoor.txc Go.Proofs.YthcancakkkjpaaaGreatDoor.txm Go.Proofs.YthcancakkkjpaaaGreatDoor.intc Go.Proofs.YthcancakkkjpaaaGreatDoor.intm
set_option linter.unusedVariables false
set_option linter.unusedSimpArgs false
theorem partsL_true_ {most : Int} : ∀ (ks : List Nd) (k : Int), (∀ n ∈ ks, ∀ m, 0 ≤ m → (partsF n m ≤ m → partsF n m = szN n) ∧ partsF n m ≤ m + 1 ∧ 1 ≤ partsF n m) → 1 ≤ k → k ≤ most + 1 → partsL ks most k ≤ most → partsL ks most k = k + szL ks
  | [], k, _, _, _, _ => by unfold partsL szL; simp
  | n :: ns, k, h, h1, h2, h3 => by
    unfold partsL at h3 ⊢
    unfold szL
    split
    · rename_i hk
      rw [if_pos hk] at h3
      obtain ⟨a, b, c⟩ := h n List.mem_cons_self (most - k) (by omega)
      have hlt : k + partsF n (most - k) ≤ most := by
        rcases Int.lt_or_le most (k + partsF n (most - k)) with hgt | hle
        · have hle2 : k + partsF n (most - k) = most + 1 := by omega
          cases ns with
          | nil => unfold partsL at h3; omega
          | cons x xs => unfold partsL at h3; rw [if_neg (by omega)] at h3; omega
        · exact hle
      have e := a (by omega)
      rw [partsL_true_ ns _ (fun m hm => h m (List.mem_cons_of_mem _ hm)) (by omega) (by omega) h3, e]
      omega
    · rename_i hk
      rw [if_neg hk] at h3
      omega
theorem partsF_true_ : ∀ (N : Nat) (n : Nd), szN n ≤ N → ∀ m, 0 ≤ m → partsF n m ≤ m → partsF n m = szN n
  | 0, .mk _ _ ks, h, _, _, _ => by unfold szN at h; omega
  | N + 1, .mk _ _ ks, h, m, hm, hle => by
    unfold szN at h
    unfold partsF at hle ⊢
    unfold szN
    rw [partsL_true_ ks 1 (fun k hk m' hm' => ⟨fun hle' => partsF_true_ N k (by have := szL_mem hk; omega) m' hm' hle', (partsF_bd N k (by have := szL_mem hk; omega) m' hm').2, (partsF_bd N k (by have := szL_mem hk; omega) m' hm').1⟩) (by omega) (by omega) hle]
    omega
theorem sz_kids : ∀ (ks : List Nd), ks.length ≤ szL ks
  | [] => Nat.zero_le _
  | k :: ks => by
    have h := sz_kids ks
    have h1 : 1 ≤ szN k := by obtain ⟨t, b, m⟩ := k; unfold szN; omega
    rw [List.length_cons]
    unfold szL
    omega
theorem parts_kids {n : Nd} (h : partsF n 5000 ≤ 5000) : n.kids.length ≤ 5000 ∧ ∀ k ∈ n.kids, k.kids.length ≤ 5000 := by
  have ht := partsF_true_ _ n (Nat.le_refl _) 5000 (by omega) h
  have hs : szN n ≤ 5000 := by omega
  obtain ⟨t, b, ks⟩ := n
  unfold szN at hs
  have h1 := sz_kids ks
  refine ⟨by show ks.length ≤ 5000; omega, fun k hk => ?_⟩
  have h2 := szL_mem (show k ∈ ks from hk)
  obtain ⟨t', b', ms⟩ := k
  unfold szN at h2
  have h3 := sz_kids ms
  show ms.length ≤ 5000
  omega
theorem two_cells {B : Nat → Prop} {w : World} {k : Nd} {c0 c1 : Value} {K : Option Addr} {m1 n1 : Nat} (h : NdC B w k c0 c1 (.slice K m1 n1)) (h2 : kidsB k 2 = true) :
    m1 = 2 ∧ ∃ g off t A l c K' m d t' A' l' c' K'' m' d', K = some ⟨g, off, none⟩ ∧ 2 ≤ n1 ∧ n1 ≤ maxLen ∧
      w.cell? ⟨g, off, none⟩ = some (.int .u8 t) ∧ w.cell? ⟨g, off + 1, none⟩ = some (.slice A l c) ∧ w.cell? ⟨g, off + 2, none⟩ = some (.slice K' m d) ∧ NdC B w (kidF k 0) (.int .u8 t) (.slice A l c) (.slice K' m d) ∧
      w.cell? ⟨g, off + 3, none⟩ = some (.int .u8 t') ∧ w.cell? ⟨g, off + 4, none⟩ = some (.slice A' l' c') ∧ w.cell? ⟨g, off + 5, none⟩ = some (.slice K'' m' d') ∧ NdC B w (kidF k 1) (.int .u8 t') (.slice A' l' c') (.slice K'' m' d') := by
  obtain ⟨_, h3⟩ := (kidsB_iff _ _).1 h2
  have h3 : k.kids.length = 2 := by omega
  obtain ⟨t, b, ks⟩ := k
  obtain ⟨_, _, _, K', ck, e, h4, h5, hL⟩ := NdC.kidsL h
  simp only [Value.slice.injEq] at e
  obtain ⟨rfl, rfl, rfl⟩ := e
  match ks, h3, h4, hL with
  | [x, y], _, h4, hL =>
    refine ⟨rfl, ?_⟩
    obtain ⟨g, off, t, A1, l1, k1, K1, m1, n1, rfl, e0, e1, e2, hn1⟩ := nd_cells hL (Below.refl _ w) 0 (by simp)
    obtain ⟨g', off', t', A2, l2, k2, K2, m2, n2, e, f0, f1, f2, hn2⟩ := nd_cells hL (Below.refl _ w) 1 (by simp)
    cases e
    exact ⟨g, off, t, A1, l1, k1, K1, m1, n1, t', A2, l2, k2, K2, m2, n2, rfl, h4, h5, e0, e1, e2, hn1, f0, f1, f2, hn2⟩
set_option maxRecDepth 100000 in
set_option maxHeartbeats 4000000 in
theorem textOf_any (B : Nat → Prop) (n : Nd) (t2 : Int) (c0 c1 c2 : Value) (w : World) (hn : NdC B w n c0 c1 c2) (hT : Tabs w) :
    Calls Tryz.prog 23 #[.agg #[c0, c1, c2], .int .u8 t2] w fun e w' => e = .returned (.tuple #[.string (strOfNums n.body), .bool (textOK t2 n)]) ∧ Below w.heap.size w w' := by
  obtain ⟨t, A, la, ca, K, lk, ck, rfl, rfl, rfl⟩ := hn.shape
  obtain ⟨h1, h2, h3, h4⟩ := body_size hn
  obtain ⟨W0, hW0⟩ : ∃ x, w.alloc (.cells #[.int .u8 t, .slice A la ca, .slice K lk ck] 25) = x := ⟨_, rfl⟩
  have hb0 : Below w.heap.size w W0 := by rw [← hW0]; exact below_new _ _
  have q0 : W0.heap[w.heap.size]? = some (.cells #[.int .u8 t, .slice A la ca, .slice K lk ck] 25) := by rw [← hW0]; exact heap_new_ _ _
  obtain ⟨x0, x1, x2⟩ := box3_ (Below.refl _ W0) q0
  have HO := Lib.hid (refRight_any t2 A la ca n.body W0 (h3.below hb0) h1 h2 (hT.below hb0))
  have HX := Lib.hid (fun W (hW : Below W0.heap.size W0 W) => box3_ hW q0)
  have HP := Lib.hid (fun W (hW : Below W0.heap.size W0 W) => plain_any _ n t2 _ _ _ W (NdC.below (below_then hb0 hW (Nat.le_refl _)) _ _ _ _ hn))
  have HV := Lib.hid (fun W (hW : Below W0.heap.size W0 W) => intc.str_now (h3.below (below_then hb0 hW (Nat.le_refl _))) ca)
  have HB := Lib.hid hb0
  obtain ⟨S, hS⟩ : ∃ x, strOfNums n.body = x := ⟨_, rfl⟩
  obtain ⟨rb, hrb⟩ : ∃ x, rightD t2 n.body = x := ⟨_, rfl⟩
  obtain ⟨pb, hpb⟩ : ∃ x, plainB n t2 = x := ⟨_, rfl⟩
  have hok : textOK t2 n = (rb && pb) := by rw [← hrb, ← hpb]; rfl
  rw [hok, hS]
  rw [hrb] at HO
  rw [hpb] at HP
  rw [hS] at HV
  clear hok hrb hpb hS q0 hb0 hn h1 h2 h3 h4
  go_enter Tryz.func23, Tryz.ntmps23
  go_wp2_with fail
  refine HO.out.mono ?_
  rintro e w1 ⟨rfl, hb1⟩
  have HW := Lib.hid hb1
  clear x0 x1 x2 HO hb1
  have x0 := fun (d : Nat) (os : Array Obj) => (HX.out _ (below_then HW.out (below_regrown w1 d os) (Nat.le_refl _))).1
  have x1 := fun (d : Nat) (os : Array Obj) => (HX.out _ (below_then HW.out (below_regrown w1 d os) (Nat.le_refl _))).2.1
  have x2 := fun (d : Nat) (os : Array Obj) => (HX.out _ (below_then HW.out (below_regrown w1 d os) (Nat.le_refl _))).2.2
  have hv := fun (d : Nat) (os : Array Obj) => HV.out _ (below_then HW.out (below_regrown w1 d os) (Nat.le_refl _))
  have HC := Lib.hid (fun (d : Nat) (os : Array Obj) => HP.out _ (below_then HW.out (below_regrown w1 d os) (Nat.le_refl _)))
  have HF := Lib.hid (fun (d : Nat) (os : Array Obj) => below_then HB.out (below_then HW.out (below_regrown w1 d os) (Nat.le_refl _)) (Nat.le_refl _))
  clear HX HV HP HB HW
  cases rb with
  | false =>
    go_wp2_with fail
    try dsimp only
    refine wp_region_quiet_below (by kernel_rfl) (by kernel_rfl) ?_
    repeat (go_big_quiet_step (fail))
    refine wpQuiet_nil ?_
    intro _ hw'
    obtain ⟨⟨nq, osq⟩, hw''⟩ := hw'
    subst hw''
    have HE := Lib.hid (HF.out nq osq)
    clear x0 x1 x2 hv HC HF
    go_wp2
    go_ret2
    exact ⟨rfl, HE.out⟩
  | true =>
    go_wp2_with fail
    try dsimp only
    refine wp_region_quiet_below (by kernel_rfl) (by kernel_rfl) ?_
    repeat (go_big_quiet_step ((go_at_call 45; refine Calls.regrown_of (HC.out _ _))))
    refine wpQuiet_nil ?_
    intro _ hw'
    obtain ⟨⟨nq, osq⟩, hw''⟩ := hw'
    subst hw''
    have HE := Lib.hid (HF.out nq osq)
    clear x0 x1 x2 hv HC HF
    go_wp2
    go_ret2
    exact ⟨rfl, HE.out⟩
end Go.Proofs.YthcancakkkjpaaaGreatDoor.nmc
