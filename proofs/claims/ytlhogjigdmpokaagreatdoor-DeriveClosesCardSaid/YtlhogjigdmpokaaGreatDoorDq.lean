/- How an argument that is a slice of integers is opened. -/
import Derived.Test.YtlhogjigdmpokaaGreatDoorTh
namespace Go.Proofs.YtlhogjigdmpokaaGreatDoor.tlvc
open Go.ChangeShapes Go.WideShapes Go.ChangeAt Go.RowKit
set_option linter.unusedVariables false
variable {H : Type} {enc : TypeId × Value → H} {P : Program} {W : World} {held : Bool}

theorem open_ins {t e : TypeId} {A : Option Addr} {len cap : Nat} {d : DataW H} {p : List MemPlace} (ht : P.underlying t = some (.slice e)) (he : P.underlying e = some (.int .i64)) (hc : P.cellsOf e = 1)
    (h : DataW.Trod enc P W 0 (fun _ => true) held t (.slice A len cap) d p) : ∃ xs, Ins W A len xs ∧ len ≤ cap ∧ cap ≤ maxLen ∧ Spots d cap := by
  obtain ⟨fuel, hf⟩ := h
  rcases open_ints ht he hc hf with ⟨hcs, hx⟩ | ⟨x, l, c, zs, hcs, _, hl, hm, hz, hx, hcell, hwz⟩
  · simp [Value.cells] at hcs
    obtain ⟨rfl, rfl, rfl⟩ := hcs
    simp only [Prod.mk.injEq] at hx
    exact ⟨[], Ins.nil_ W _, Nat.le_refl _, Nat.zero_le _, .inl ⟨hx.1, rfl⟩⟩
  · simp [Value.cells] at hcs
    obtain ⟨rfl, rfl, rfl⟩ := hcs
    simp only [Prod.mk.injEq] at hx
    have hz' : zs.length = cap := by simpa using hz
    refine ⟨zs.take len, ins_of_cells hl hz' (fit8_of_wf hwz) (fun h => by cases h) (fun a ha i hi => ?_), hl, hm, .inr ⟨_, _, hx.1, ?_⟩⟩
    · cases ha
      exact hcell i (by omega)
    · simp only [lits, List.length_map, List.length_take, List.length_drop]
      omega
/-- The form's own reach, of elements of eight bytes. -/
theorem spots_reach8 {ts : List TypeId} {ds : List (DataW H)} (hsz : (DataW.weightsEach P ts ds).all (· ≤ reachBytes) = true) {j : Nat} {t e : TypeId} {d : DataW H} {cap : Nat} (hd : Spots d cap) (h1 : ts[j]? = some t) (h2 : ds[j]? = some d) (hu : P.underlying t = some (.slice e)) (hb : 8 ≤ P.bytesOf e) : cap ≤ 17592186043904 := by
  rcases hd with ⟨_, rfl⟩ | ⟨es, sp, rfl, rfl⟩
  · omega
  · have h3 := sized_slice hsz h1 h2 hu
    have h4 := Nat.le_trans (Nat.mul_le_mul_left (es.length + sp.length) hb) h3
    simp [reachBytes] at h4
    omega
end Go.Proofs.YtlhogjigdmpokaaGreatDoor.tlvc
