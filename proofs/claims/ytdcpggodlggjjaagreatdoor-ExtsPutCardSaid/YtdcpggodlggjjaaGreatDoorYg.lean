/- What the laws of names share. The program's alike, and kidAt -/
import Derived.Test.YtdcpggodlggjjaaGreatDoorYf
import Derived.Test.YtdcpggodlggjjaaGreatDoorNap
import Derived.Test.YtdcpggodlggjjaaGreatDoorYc
import Derived.Deep.RegionHeld3
set_option linter.unusedVariables false
set_option linter.unusedSimpArgs false
namespace Go.Proofs.YtdcpggodlggjjaaGreatDoor.nmc
open Go.RowKit tlvc tlvd ndc txc txm intc intm
def zn : Nd := .mk 0 [] []
def codeN (r : Option Nd) : Int := if r.isSome = true then 0 else 91
theorem NPost0.any {S : Nat → Prop} {w : World} {r : Option Nd} {e : Ending} {w' : World} (h : NPost0 S w r e w') : Below w.heap.size w w' ∧ ∃ t A la ca K lk ck er, e = .returned (.tuple #[.agg #[.int .u8 t, .slice A la ca, .slice K lk ck], .int .i64 er]) ∧ er = codeN r ∧ NdC (fun _ => True) w' (r.getD zn) (.int .u8 t) (.slice A la ca) (.slice K lk ck) := by
 obtain ⟨hb, h⟩ := h
 refine ⟨hb, ?_⟩
 cases r with
 | none => exact ⟨_, _, _, _, _, _, _, _, h, rfl, ndC_leaf (by omega) (lr_ _) (Nat.zero_le _) (Bys.nil_ _ _) (fun h => absurd h (by omega))⟩
 | some n =>
  obtain ⟨t, A, la, ca, K, lk, ck, e, hn⟩ := h
  exact ⟨t, A, la, ca, K, lk, ck, _, e, rfl, NdC.mono (fun _ _ => trivial) _ _ _ _ hn⟩
theorem box_nd {W0 W : World} (h : Below W0.heap.size W0 W) {g : Nat} {a b c : Value} {T : TypeId} {fr : Nat × Nat} (hq : W0.heap[g]? = some (.cells #[a, b, c] T fr)) : W.cell? ⟨g, 0, none⟩ = some a ∧ W.cell? ⟨g, 1, none⟩ = some b ∧ W.cell? ⟨g, 2, none⟩ = some c := by
 have hq := (h.block g (Array.getElem?_eq_some_iff.1 hq).1).trans hq
 exact ⟨(ch_ hq _).trans rfl, (ch_ hq _).trans rfl, (ch_ hq _).trans rfl⟩
theorem same_self (n : Nd) (C1 C2 : Nat → Prop) (c0 c1 c2 d0 d1 d2 : Value) (w : World) (h : NdC C1 w n c0 c1 c2) (k : NdC C2 w n d0 d1 d2) : Calls Tryz.prog 11 #[.agg #[c0, c1, c2], .agg #[d0, d1, d2]] w fun e w' => e = .returned (.bool true) ∧ Below w.heap.size w w' := by
 have := same_of (szN n) n n (lr_ _) _ _ w ⟨_, _, _, rfl, h⟩ ⟨_, _, _, rfl, k⟩
 rwa [sameN_refl] at this
end Go.Proofs.YtdcpggodlggjjaaGreatDoor.nmc
namespace Go.Proofs.YtdcpggodlggjjaaGreatDoor.nmc
open Go.RowKit tlvc tlvd ndc txc txm intc intm
theorem sameL_step {ks ms : List Nd} {i : Nat} {R : Bool} (h1 : i < ks.length) (hl : ks.length = ms.length) (h : sameL (ks.drop i) (ms.drop i) = R) : (sameN ks[i] (ms[i]'(by omega)) = false → R = false) ∧ (sameN ks[i] (ms[i]'(by omega)) = true → sameL (ks.drop (i + 1)) (ms.drop (i + 1)) = R) := by
 rw [sameL_drop i h1 hl] at h
 constructor
 ·intro e; rw [← h, e]; rfl
 ·intro e; rw [← h, e]; rfl
theorem sameL_end {ks ms : List Nd} {i : Nat} {R : Bool} (h1 : ¬ i < ks.length) (h : sameL (ks.drop i) (ms.drop i) = R) : R = true := by
 rw [← h, List.drop_eq_nil_of_le (by omega)]
 unfold sameL
 rfl
theorem nd_cells {B : Nat → Prop} {w wr : World} {A : Option Addr} {xs : List Nd} (hL : Lst ndE B w A xs) (hb : Below w.heap.size w wr) (i : Nat) (hi : i < xs.length) : ∃ g off t A1 l1 k1 K1 m1 n1, A = some ⟨g, off, none⟩ ∧ wr.cell? ⟨g, off + i * 3, none⟩ = some (.int .u8 t) ∧ wr.cell? ⟨g, off + i * 3 + 1, none⟩ = some (.slice A1 l1 k1) ∧ wr.cell? ⟨g, off + i * 3 + 2, none⟩ = some (.slice K1 m1 n1) ∧ NdC B wr xs[i] (.int .u8 t) (.slice A1 l1 k1) (.slice K1 m1 n1) := by
 obtain ⟨g, off, cs, rfl, hg, hcell, hold⟩ := (hL.below hb).at i hi
 obtain ⟨c0, c1, c2, rfl, hn⟩ := hold
 obtain ⟨t, A1, l1, k1, K1, m1, n1, rfl, rfl, rfl⟩ := hn.shape
 have e0 := hcell 0 _ rfl
 have e1 := hcell 1 _ rfl
 have e2 := hcell 2 _ rfl
 rw [show ndE.sz = 3 from rfl] at e0 e1 e2
 rw [Nat.add_zero] at e0
 exact ⟨g, off, t, A1, l1, k1, K1, m1, n1, rfl, e0, e1, e2, hn⟩
end Go.Proofs.YtdcpggodlggjjaaGreatDoor.nmc
namespace Go.Proofs.YtdcpggodlggjjaaGreatDoor.nmc
open Go.RowKit tlvc tlvd ndc txc txm intc intm
theorem Tryz.infoStr : (Tryz.prog.info? 9).map (fun i => (i.zero, i.size, i.bytes)) = some (some (.string ⟨#[]⟩), 1, 16) := by kernel_rfl
theorem Tryz.infS : Inf Tryz.prog 74 9 stE.sz 16 := by
 obtain ⟨i0, hi, hz0, hz1, hz2⟩ := info_parts Tryz.infoStr
 exact ⟨Tryz.underlying74, i0, _, hi, hz0, hz1, hz2, rfl⟩
theorem body_size {B : Nat → Prop} {w : World} {n : Nd} {t : Int} {A : Option Addr} {la ca : Nat} {K : Option Addr} {lk ck : Nat} (h : NdC B w n (.int .u8 t) (.slice A la ca) (.slice K lk ck)) : la ≤ ca ∧ ca ≤ maxLen ∧ Bys w A la n.body ∧ n.body.length = la := by
 obtain ⟨t', b, ks⟩ := n
 obtain ⟨_, _, ⟨A', la', ca', e, h1, h2, h3, _⟩, _⟩ := NdC.kidsL h
 simp only [Value.slice.injEq] at e
 obtain ⟨rfl, rfl, rfl⟩ := e
 exact ⟨h1, h2, h3, h3.1⟩
def APost (w : World) (a : At) (e : Ending) (w' : World) : Prop := ∃ A l c s, e = .returned (.agg #[.slice A l c, .string s]) ∧ atE.hold (fun _ => True) w' a [.slice A l c, .string s] ∧ Below w.heap.size w w'
end Go.Proofs.YtdcpggodlggjjaaGreatDoor.nmc
namespace Go.Proofs.YtdcpggodlggjjaaGreatDoor.nmc
open Go.RowKit tlvc tlvd ndc txc txm intc intm
end Go.Proofs.YtdcpggodlggjjaaGreatDoor.nmc
