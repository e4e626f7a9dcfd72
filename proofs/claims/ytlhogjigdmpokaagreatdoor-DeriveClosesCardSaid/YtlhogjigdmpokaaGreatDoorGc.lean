/- What is kept: the plain facts of it; a term's first kid. -/
import Derived.Test.YtlhogjigdmpokaaGreatDoorGb
namespace Go.Proofs.YtlhogjigdmpokaaGreatDoor.vtc
open Go.RowKit Go.Proofs.YtlhogjigdmpokaaGreatDoor.tlvc Go.Proofs.YtlhogjigdmpokaaGreatDoor.tmc Go.Proofs.YtlhogjigdmpokaaGreatDoor.rfc
set_option linter.unusedVariables false
theorem atom_right {m : Int} {d : List Int} {ks : List Tm} (h : rightF (.mk 1 m d ks) 0 = true) : d = [] ∧ ks = [] := by
  have h2 := (right_mk.1 h).2.1
  unfold aloneB at h2
  rw [if_pos rfl] at h2
  have h3 := of_decide_eq_true h2
  exact ⟨List.eq_nil_of_length_eq_zero h3.2.1, List.eq_nil_of_length_eq_zero h3.1⟩
theorem kid_first {B : Nat → Prop} {w : World} {o m : Int} {d : List Int} {ks : List Tm} {c0 c1 c2 : Value} {K : Option Addr} {lk ck : Nat} (h : TmC B w (.mk o m d ks) c0 c1 c2 (.slice K lk ck)) (hl : ks.length = 1) :
    ∃ ko km kd kks g off, ks = [.mk ko km kd kks] ∧ K = some ⟨g, off, none⟩ ∧ lk = 1 ∧ 1 ≤ ck ∧ ck ≤ 9223372036854775807 ∧ w.cell? ⟨g, off, none⟩ = some (.int .i64 ko) ∧ w.cell? ⟨g, off + 1, none⟩ = some (.int .i64 km) := by
  obtain ⟨h1, h2, h3, h4⟩ := kidv h
  obtain ⟨k, g, off, d0, d1, d2, d3, e, rfl, q0, q1, _, _, hk⟩ := h4 0 (by omega)
  obtain ⟨ko, km, kd, kks⟩ := k
  obtain ⟨o', m', A, la, ca, K', lk', ck', rfl, rfl, rfl, rfl⟩ := hk.shape
  obtain ⟨rfl, rfl, _⟩ := term_parts hk
  refine ⟨_, _, kd, kks, g, off, ?_, rfl, by omega, by omega, h3, q0, q1⟩
  obtain ⟨a, rfl⟩ := List.length_eq_one_iff.1 hl
  injection e with e
  rw [e]
theorem secret_x {L : List Tm} {known : List Int} {x : Nat} {num : Int} (hx : L[x]? = some (.mk 1 num [] [])) (hk : (x : Int) ∉ known) (he : ∀ j, j < L.length → ¬ Nm L j (x : Int)) : decide ((x : Int) ∈ clF L known) = false :=
  decide_eq_false fun h => secret_atom hx hk (fun i m d r e hm => he i (List.getElem?_eq_some_iff.1 e).1 ⟨m, d, r, e, hm⟩) ((cl_nat x).1 h)
theorem secret_n {L : List Tm} {known : List Int} {x n : Nat} {num o m : Int} {d : List Int} {r : List Tm} (hx : L[x]? = some (.mk 1 num [] [])) (ha : findV (.mk 1 num [] []) L = some x) (hn : L[n]? = some (.mk o m d (.mk 1 num [] [] :: r))) (ho : o = 2 ∨ o = 3 ∨ o = 6) (hk : (x : Int) ∉ known) (hkn : (n : Int) ∉ known)
    (he : ∀ j, j < L.length → ¬ Nm L j (x : Int)) (hen : ¬ ∃ i, i < L.length ∧ Nm L i (n : Int)) : decide ((n : Int) ∈ clF L known) = false :=
  decide_eq_false fun h => secret_key hx ha hn (by omega) hk hkn (fun i m d r e => ⟨fun hm => he i (List.getElem?_eq_some_iff.1 e).1 ⟨m, d, r, e, hm⟩, fun hm => hen ⟨i, (List.getElem?_eq_some_iff.1 e).1, m, d, r, e, hm⟩⟩) ((cl_nat n).1 h)
theorem atom_tm (B : Nat → Prop) (w : World) (num : Int) (h : I64 num) : TmV B w (.mk 1 num [] []) (.agg #[.int .i64 1, .int .i64 num, .slice none 0 0, .slice none 0 0]) := by
  refine ⟨_, _, _, _, rfl, ?_⟩
  unfold TmC
  exact ⟨rfl, by unfold I64; omega, rfl, h, ⟨none, 0, 0, rfl, Nat.le_refl _, Nat.zero_le _, Bys.nil_ _ _, fun h => absurd h (by omega)⟩, none, 0, rfl, Nat.le_refl _, Nat.zero_le _, fun h => absurd h (by simp)⟩
theorem atom_size (num : Int) : szT (.mk 1 num [] []) ≤ 10000 := by rw [szT_kids]; decide
theorem numI_yes {t : Tm} {L : List Tm} {x : Nat} (h : findV t L = some x) : numI t L = (x : Int) ∧ (findV t L).isSome = true := by unfold numI; rw [h]; exact ⟨rfl, rfl⟩
theorem numI_not {t : Tm} {L : List Tm} (h : findV t L = none) : numI t L = -1 ∧ (findV t L).isSome = false := by unfold numI; rw [h]; exact ⟨rfl, rfl⟩
end Go.Proofs.YtlhogjigdmpokaaGreatDoor.vtc
