/- Where the count of parts ends below its bound it is the true one. -/
import Derived.Test.YtaafgohaikhekaaDoorNdPd
namespace Go.Proofs.YtaafgohaikhekaaDoor.ndc
open Go.RowKit Go.Proofs.YtaafgohaikhekaaDoor.tlvc Go.Proofs.YtaafgohaikhekaaDoor.tlvd Go.Proofs.YtaafgohaikhekaaDoor.txc
set_option linter.unusedVariables false
theorem partsL_true {most : Int} : ∀ (ks : List Nd) (k : Int), (∀ n ∈ ks, ∀ m, 0 ≤ m → (partsF n m ≤ m → partsF n m = szN n) ∧ partsF n m ≤ m + 1 ∧ 1 ≤ partsF n m) → 1 ≤ k → k ≤ most + 1 → partsL ks most k ≤ most → partsL ks most k = k + szL ks
  | [], k, _, _, _, _ => by unfold partsL szL; simp
  | n :: ns, k, h, h1, h2, h3 => by
    unfold partsL at h3 ⊢
    unfold szL
    split
    · rename_i hk
      rw [if_pos hk] at h3
      obtain ⟨a, b, c⟩ := h n List.mem_cons_self (most - k) (by omega)
      have hlt : k + partsF n (most - k) ≤ most := by
        rcases Int.lt_or_le most (k + partsF n (most - k)) with hgt | hle
        · have hle2 : k + partsF n (most - k) = most + 1 := by omega
          cases ns with
          | nil => unfold partsL at h3; omega
          | cons x xs => unfold partsL at h3; rw [if_neg (by omega)] at h3; omega
        · exact hle
      have e := a (by omega)
      rw [partsL_true ns _ (fun m hm => h m (List.mem_cons_of_mem _ hm)) (by omega) (by omega) h3, e]
      omega
    · rename_i hk
      rw [if_neg hk] at h3
      omega
theorem partsF_true : ∀ (N : Nat) (n : Nd), szN n ≤ N → ∀ m, 0 ≤ m → partsF n m ≤ m → partsF n m = szN n
  | 0, .mk _ _ ks, h, _, _, _ => by unfold szN at h; omega
  | N + 1, .mk _ _ ks, h, m, hm, hle => by
    unfold szN at h
    unfold partsF at hle ⊢
    unfold szN
    rw [partsL_true ks 1 (fun k hk m' hm' => ⟨fun hle' => partsF_true N k (by have := szL_mem hk; omega) m' hm' hle', (partsF_bd N k (by have := szL_mem hk; omega) m' hm').2, (partsF_bd N k (by have := szL_mem hk; omega) m' hm').1⟩) (by omega) (by omega) hle]
    omega
end Go.Proofs.YtaafgohaikhekaaDoor.ndc
