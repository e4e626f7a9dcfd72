/- Terms one behind the other in a list of cells. Nothing here names the program. -/
import Derived.Test.YtlnclgpbobaedaaDoorTmT
import Derived.Test.YtlnclgpbobaedaaDoorKitE
namespace Go.Proofs.YtlnclgpbobaedaaDoor.tmc
open Go.RowKit Go.Proofs.YtlnclgpbobaedaaDoor.tlvc
set_option linter.unusedVariables false
def Quads (S : Nat → Prop) (w : World) : List Tm → List Value → Prop
  | [], cs => cs = []
  | k :: ks, cs => ∃ c0 c1 c2 c3 r, cs = c0 :: c1 :: c2 :: c3 :: r ∧ TmC S w k c0 c1 c2 c3 ∧ Quads S w ks r
theorem Quads.stays {S : Nat → Prop} {w w' : World} (hs : Stays S w w') : ∀ {ks : List Tm} {cs : List Value}, Quads S w ks cs → Quads S w' ks cs
  | [], _, h => h
  | k :: ks, _, ⟨c0, c1, c2, c3, r, e, hk, hr⟩ => ⟨c0, c1, c2, c3, r, e, TmC.stays hs k c0 c1 c2 c3 hk, Quads.stays hs hr⟩
theorem Quads.mono {S S' : Nat → Prop} {w : World} (hS : ∀ g, S g → S' g) : ∀ {ks : List Tm} {cs : List Value}, Quads S w ks cs → Quads S' w ks cs
  | [], _, h => h
  | k :: ks, _, ⟨c0, c1, c2, c3, r, e, hk, hr⟩ => ⟨c0, c1, c2, c3, r, e, TmC.mono hS k c0 c1 c2 c3 hk, Quads.mono hS hr⟩
theorem Quads.below2 {B S : Nat → Prop} {w w' : World} (hs : Stays B w w') (hS : ∀ g, B g → g < w.heap.size → S g) : ∀ {ks : List Tm} {cs : List Value}, Quads B w ks cs → Quads S w' ks cs
  | [], _, h => h
  | k :: ks, _, ⟨c0, c1, c2, c3, r, e, hk, hr⟩ => ⟨c0, c1, c2, c3, r, e, TmC.below2 hs hk hS, Quads.below2 hs hS hr⟩
theorem Quads.snoc {S : Nat → Prop} {w : World} {n : Tm} {d0 d1 d2 d3 : Value} (hn : TmC S w n d0 d1 d2 d3) : ∀ {ks : List Tm} {cs : List Value}, Quads S w ks cs → Quads S w (ks ++ [n]) (cs ++ [d0, d1, d2, d3])
  | [], cs, h => by
    have h : cs = [] := h
    subst h
    exact ⟨d0, d1, d2, d3, [], rfl, hn, rfl⟩
  | k :: ks, _, ⟨c0, c1, c2, c3, r, e, hk, hr⟩ => ⟨c0, c1, c2, c3, r ++ [d0, d1, d2, d3], by rw [e]; rfl, hk, Quads.snoc hn hr⟩
theorem Quads.app {S : Nat → Prop} {w : World} {ks' : List Tm} {cs' : List Value} (h' : Quads S w ks' cs') : ∀ {ks : List Tm} {cs : List Value}, Quads S w ks cs → Quads S w (ks ++ ks') (cs ++ cs')
  | [], cs, h => by
    have h : cs = [] := h
    subst h
    exact h'
  | k :: ks, _, ⟨c0, c1, c2, c3, r, e, hk, hr⟩ => ⟨c0, c1, c2, c3, r ++ cs', by rw [e]; rfl, hk, Quads.app h' hr⟩
theorem Quads.len {S : Nat → Prop} {w : World} : ∀ {ks : List Tm} {cs : List Value}, Quads S w ks cs → cs.length = ks.length * 4
  | [], _, h => by have h : _ = [] := h; subst h; rfl
  | k :: ks, _, ⟨c0, c1, c2, c3, r, e, hk, hr⟩ => by subst e; have := Quads.len hr; simp; omega
theorem TmC.one {S : Nat → Prop} {w : World} {n : Tm} {c0 c1 c2 c3 : Value} (h : TmC S w n c0 c1 c2 c3) : c0.oneCell' = true ∧ c1.oneCell' = true ∧ c2.oneCell' = true ∧ c3.oneCell' = true := by
  obtain ⟨o, m, A, la, ca, K, lk, ck, rfl, rfl, rfl, rfl⟩ := h.shape
  exact ⟨rfl, rfl, rfl, rfl⟩
theorem Quads.one {S : Nat → Prop} {w : World} : ∀ {ks : List Tm} {cs : List Value}, Quads S w ks cs → ∀ u ∈ cs, u.oneCell' = true
  | [], _, h, u, hu => by have h : _ = [] := h; subst h; simp at hu
  | k :: ks, _, ⟨c0, c1, c2, c3, r, e, hk, hr⟩, u, hu => by
    subst e
    obtain ⟨o0, o1, o2, o3⟩ := hk.one
    simp only [List.mem_cons] at hu
    rcases hu with rfl | rfl | rfl | rfl | hu
    · exact o0
    · exact o1
    · exact o2
    · exact o3
    · exact Quads.one hr u hu
/-- Where these cells lie in memory: the terms lie there. -/
theorem Quads.kids {S : Nat → Prop} {w : World} {g : Nat} : ∀ {ks : List Tm} {cs : List Value} {off : Nat}, Quads S w ks cs → (∀ j u, cs[j]? = some u → w.cell? ⟨g, off + j, none⟩ = some u) → KidsC S w g off ks
  | [], _, _, _, _ => by unfold KidsC; trivial
  | k :: ks, _, off, ⟨c0, c1, c2, c3, r, e, hk, hr⟩, hc => by
    subst e
    unfold KidsC
    refine ⟨⟨c0, c1, c2, c3, hc 0 c0 rfl, hc 1 c1 rfl, hc 2 c2 rfl, hc 3 c3 rfl, hk⟩, Quads.kids hr fun j u hu => ?_⟩
    have := hc (j + 4) u hu
    rwa [show off + (j + 4) = off + 4 + j by omega] at this
/-- And back. -/
theorem Quads.of {S : Nat → Prop} {w : World} {g : Nat} : ∀ {ks : List Tm} {off : Nat}, KidsC S w g off ks → ∃ cs, Quads S w ks cs ∧ ∀ j u, cs[j]? = some u → w.cell? ⟨g, off + j, none⟩ = some u
  | [], off, _ => ⟨[], rfl, fun j u h => by simp at h⟩
  | k :: ks, off, h => by
    unfold KidsC at h
    obtain ⟨⟨c0, c1, c2, c3, h0, h1, h2, h3, hk⟩, hr⟩ := h
    obtain ⟨cs, hq, hc⟩ := Quads.of hr
    refine ⟨c0 :: c1 :: c2 :: c3 :: cs, ⟨c0, c1, c2, c3, cs, rfl, hk, hq⟩, fun j u hu => ?_⟩
    match j, hu with
    | 0, hu => cases hu; exact h0
    | 1, hu => cases hu; exact h1
    | 2, hu => cases hu; exact h2
    | 3, hu => cases hu; exact h3
    | j + 4, hu =>
      have := hc j u hu
      rwa [show off + 4 + j = off + (j + 4) by omega] at this
/-- A term with its cells. -/
structure El (S : Nat → Prop) (w : World) where
  tm : Tm
  c0 : Value
  c1 : Value
  c2 : Value
  c3 : Value
  h : TmC S w tm c0 c1 c2 c3
def El.enc {S : Nat → Prop} {w : World} (x : El S w) : List Value := [x.c0, x.c1, x.c2, x.c3]
theorem nil_tm (B : Nat → Prop) (w : World) : TmC B w (.mk 0 0 [] []) (.int .i64 0) (.int .i64 0) (.slice none 0 0) (.slice none 0 0) := by
  unfold TmC
  exact ⟨rfl, by unfold I64; omega, rfl, by unfold I64; omega, ⟨none, 0, 0, rfl, Nat.le_refl _, Nat.zero_le _, Bys.nil_ _ _, fun h => absurd h (by omega)⟩, none, 0, rfl, Nat.le_refl _, Nat.zero_le _, fun h => absurd h (by simp)⟩
instance (S : Nat → Prop) (w : World) : Inhabited (El S w) := ⟨⟨.mk 0 0 [] [], .int .i64 0, .int .i64 0, .slice none 0 0, .slice none 0 0, nil_tm S w⟩⟩
theorem Quads.els {S : Nat → Prop} {w : World} : ∀ {ks : List Tm} {cs : List Value}, Quads S w ks cs → ∃ d : List (El S w), d.map El.tm = ks ∧ d.flatMap El.enc = cs
  | [], _, h => ⟨[], rfl, h.symm⟩
  | k :: ks, _, ⟨c0, c1, c2, c3, r, e, hk, hr⟩ => by
    obtain ⟨d, h1, h2⟩ := Quads.els hr
    subst e
    exact ⟨⟨k, c0, c1, c2, c3, hk⟩ :: d, by rw [List.map_cons, h1], by rw [List.flatMap_cons, h2]; rfl⟩
theorem els_quads {S : Nat → Prop} {w : World} : ∀ d : List (El S w), Quads S w (d.map El.tm) (d.flatMap El.enc)
  | [] => rfl
  | ⟨k, c0, c1, c2, c3, hk⟩ :: d => ⟨c0, c1, c2, c3, d.flatMap El.enc, rfl, hk, els_quads d⟩
theorem els_at {S : Nat → Prop} {w : World} : ∀ (d : List (El S w)) (t : Nat), t < d.length * 4 → (d.flatMap El.enc)[t]? = some ((El.enc (d.getD (t / 4) default))[t % 4]!)
  | [], t, h => by simp at h
  | x :: d, t, h => by
    rw [List.flatMap_cons]
    by_cases h4 : t < 4
    · rw [List.getElem?_append_left (by simpa [El.enc] using h4)]
      have e1 : t / 4 = 0 := by omega
      have e2 : t % 4 = t := by omega
      rw [e1, e2]
      match t, h4 with
      | 0, _ => rfl
      | 1, _ => rfl
      | 2, _ => rfl
      | 3, _ => rfl
    · have hl : (El.enc x).length = 4 := rfl
      rw [List.getElem?_append_right (by omega), hl, els_at d (t - 4) (by simp at h; omega)]
      have e1 : t / 4 = (t - 4) / 4 + 1 := by omega
      have e2 : t % 4 = (t - 4) % 4 := by omega
      rw [e1, e2]
      rfl
theorem els_len {S : Nat → Prop} {w : World} : ∀ d : List (El S w), (d.flatMap El.enc).length = d.length * 4
  | [] => rfl
  | x :: d => by
    rw [List.flatMap_cons, List.length_append, els_len d]
    have : (El.enc x).length = 4 := rfl
    simp; omega
end Go.Proofs.YtlnclgpbobaedaaDoor.tmc
