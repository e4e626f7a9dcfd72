/- Lists of integers, of principals, of names, of odd extensions as lists in memory; extensions in nine cells. Nothing here names the program. -/
import Derived.Test.YtdcpggodlggjjaaGreatDoorYa
namespace Go.Proofs.YtdcpggodlggjjaaGreatDoor.nmc
open Go.RowKit Go.Proofs.YtdcpggodlggjjaaGreatDoor.tlvc Go.Proofs.YtdcpggodlggjjaaGreatDoor.ndc
set_option linter.unusedVariables false
theorem Lst.stays {α : Type} {E : El α} {S : Nat → Prop} {w w' : World} {A : Option Addr} {xs : List α} (hs : Stays S w w') (h : Lst E S w A xs) : Lst E S w' A xs := fun hn => by
 obtain ⟨g, off, e, hg, hB, hc⟩ := h hn
 refine ⟨g, off, e, Nat.lt_of_lt_of_le hg hs.1, hB, fun i hi => ?_⟩
 obtain ⟨cs, h1, h2⟩ := hc i hi
 exact ⟨cs, fun j u hu => (hs.2 ⟨g, off + i * E.sz + j, none⟩ hB hg).trans (h1 j u hu), E.stays hs h2⟩
theorem Lst.boundS {α : Type} {E : El α} {S : Nat → Prop} {w : World} {A : Option Addr} {xs : List α} (h : Lst E S w A xs) : Lst E (fun g => S g ∧ g < w.heap.size) w A xs := fun hn => by
 obtain ⟨g, off, e, hg, hB, hc⟩ := h hn
 refine ⟨g, off, e, hg, ⟨hB, hg⟩, fun i hi => ?_⟩
 obtain ⟨cs, h1, h2⟩ := hc i hi
 exact ⟨cs, h1, E.bound h2⟩
/-- A list in one cell. -/
def LsC {α : Type} (E : El α) (S : Nat → Prop) (w : World) (xs : List α) (c0 : Value) : Prop := ∃ A c, c0 = .slice A xs.length c ∧ xs.length ≤ c ∧ c ≤ maxLen ∧ Lst E S w A xs
def lsE {α : Type} (E : El α) : El (List α) where
 sz := 1
 hold S w xs cs := ∃ c0, cs = [c0] ∧ LsC E S w xs c0
 stays := fun hs ⟨c0, e, A, c, e0, h1, h2, h3⟩ => ⟨c0, e, A, c, e0, h1, h2, h3.stays hs⟩
 mono := fun hS ⟨c0, e, A, c, e0, h1, h2, h3⟩ => ⟨c0, e, A, c, e0, h1, h2, h3.mono hS⟩
 bound := fun ⟨c0, e, A, c, e0, h1, h2, h3⟩ => ⟨c0, e, A, c, e0, h1, h2, h3.boundS⟩
 len := fun ⟨c0, e, _⟩ => by rw [e]; rfl
 one := fun ⟨c0, e, A, c, e0, _⟩ u hu => by
  subst e e0
  simp at hu
  subst hu; rfl
 pos := by decide
/-- An object's numbers in one cell. -/
def InC (S : Nat → Prop) (w : World) (xs : List Int) (c0 : Value) : Prop := ∃ A la ca, c0 = .slice A la ca ∧ la ≤ ca ∧ ca ≤ maxLen ∧ Ins w A la xs ∧ (0 < la → ∀ g off sp, A = some ⟨g, off, sp⟩ → S g)
theorem InC.stays {S : Nat → Prop} {w w' : World} {xs : List Int} {c0 : Value} (hs : Stays S w w') (h : InC S w xs c0) : InC S w' xs c0 := by
 obtain ⟨A, la, ca, e0, h1, h2, h3, h4⟩ := h
 exact ⟨A, la, ca, e0, h1, h2, ins_stays hs h3 h4, h4⟩
theorem InC.mono {S S' : Nat → Prop} {w : World} {xs : List Int} {c0 : Value} (hS : ∀ g, S g → S' g) (h : InC S w xs c0) : InC S' w xs c0 := by
 obtain ⟨A, la, ca, e0, h1, h2, h3, h4⟩ := h
 exact ⟨A, la, ca, e0, h1, h2, h3, fun hl g off sp e => hS _ (h4 hl g off sp e)⟩
theorem InC.bound {S : Nat → Prop} {w : World} {xs : List Int} {c0 : Value} (h : InC S w xs c0) : InC (fun g => S g ∧ g < w.heap.size) w xs c0 := by
 obtain ⟨A, la, ca, e0, h1, h2, h3, h4⟩ := h
 refine ⟨A, la, ca, e0, h1, h2, h3, fun hl g off sp e => ⟨h4 hl g off sp e, ?_⟩⟩
 obtain ⟨b', off', e', hb', _⟩ := h3.2.2 hl
 rw [e'] at e; cases e; exact hb'
theorem InC.one {S : Nat → Prop} {w : World} {xs : List Int} {c0 : Value} (h : InC S w xs c0) : c0.oneCell' = true := by
 obtain ⟨A, la, ca, rfl, _⟩ := h; rfl
def inE : El (List Int) where
 sz := 1
 hold S w xs cs := ∃ c0, cs = [c0] ∧ InC S w xs c0
 stays := fun hs ⟨c0, e, h⟩ => ⟨c0, e, h.stays hs⟩
 mono := fun hS ⟨c0, e, h⟩ => ⟨c0, e, h.mono hS⟩
 bound := fun ⟨c0, e, h⟩ => ⟨c0, e, h.bound⟩
 len := fun ⟨c0, e, _⟩ => by rw [e]; rfl
 one := fun ⟨c0, e, h⟩ u hu => by
  subst e
  simp at hu
  subst hu; exact h.one
 pos := by decide
/-- Bytes in one cell. -/
def ByC (S : Nat → Prop) (w : World) (xs : List Int) (c0 : Value) : Prop := ∃ A la ca, c0 = .slice A la ca ∧ la ≤ ca ∧ ca ≤ maxLen ∧ Bys w A la xs ∧ (0 < la → ∀ g off sp, A = some ⟨g, off, sp⟩ → S g)
theorem ByC.stays {S : Nat → Prop} {w w' : World} {xs : List Int} {c0 : Value} (hs : Stays S w w') (h : ByC S w xs c0) : ByC S w' xs c0 := by
 obtain ⟨A, la, ca, e0, h1, h2, h3, h4⟩ := h
 exact ⟨A, la, ca, e0, h1, h2, bys_stays hs h3 h4, h4⟩
theorem ByC.mono {S S' : Nat → Prop} {w : World} {xs : List Int} {c0 : Value} (hS : ∀ g, S g → S' g) (h : ByC S w xs c0) : ByC S' w xs c0 := by
 obtain ⟨A, la, ca, e0, h1, h2, h3, h4⟩ := h
 exact ⟨A, la, ca, e0, h1, h2, h3, fun hl g off sp e => hS _ (h4 hl g off sp e)⟩
theorem ByC.bound {S : Nat → Prop} {w : World} {xs : List Int} {c0 : Value} (h : ByC S w xs c0) : ByC (fun g => S g ∧ g < w.heap.size) w xs c0 := by
 obtain ⟨A, la, ca, e0, h1, h2, h3, h4⟩ := h
 refine ⟨A, la, ca, e0, h1, h2, h3, fun hl g off sp e => ⟨h4 hl g off sp e, ?_⟩⟩
 obtain ⟨b', off', e', hb', _⟩ := h3.2.2 hl
 rw [e'] at e; cases e; exact hb'
theorem ByC.one {S : Nat → Prop} {w : World} {xs : List Int} {c0 : Value} (h : ByC S w xs c0) : c0.oneCell' = true := by
 obtain ⟨A, la, ca, rfl, _⟩ := h; rfl
def prE : El Pr where
 sz := 2
 hold S w p cs := ∃ c0 c1, cs = [c0, c1] ∧ PrC S w p c0 c1
 stays := fun hs ⟨c0, c1, e, A, c, e0, e1, h1, h2, h3, h4⟩ => ⟨c0, c1, e, A, c, e0, e1, h1, h2, h3.stays hs, h4⟩
 mono := fun hS ⟨c0, c1, e, A, c, e0, e1, h1, h2, h3, h4⟩ => ⟨c0, c1, e, A, c, e0, e1, h1, h2, h3.mono hS, h4⟩
 bound := fun ⟨c0, c1, e, A, c, e0, e1, h1, h2, h3, h4⟩ => ⟨c0, c1, e, A, c, e0, e1, h1, h2, h3.boundS, h4⟩
 len := fun ⟨c0, c1, e, _⟩ => by rw [e]; rfl
 one := fun ⟨c0, c1, e, A, c, e0, e1, _⟩ u hu => by
  subst e e0 e1
  simp at hu
  rcases hu with rfl | rfl <;> rfl
 pos := by decide
/-- An extension of an object that is not known. -/
structure Od where
 oid : List Int
 crit : Bool
 body : List Int
instance : Inhabited Od := ⟨⟨[], false, []⟩⟩
def OdC (S : Nat → Prop) (w : World) (o : Od) (c0 c1 c2 : Value) : Prop := InC S w o.oid c0 ∧ c1 = .bool o.crit ∧ ByC S w o.body c2
def odE : El Od where
 sz := 3
 hold S w o cs := ∃ c0 c1 c2, cs = [c0, c1, c2] ∧ OdC S w o c0 c1 c2
 stays := fun hs ⟨c0, c1, c2, e, h1, h2, h3⟩ => ⟨c0, c1, c2, e, h1.stays hs, h2, h3.stays hs⟩
 mono := fun hS ⟨c0, c1, c2, e, h1, h2, h3⟩ => ⟨c0, c1, c2, e, h1.mono hS, h2, h3.mono hS⟩
 bound := fun ⟨c0, c1, c2, e, h1, h2, h3⟩ => ⟨c0, c1, c2, e, h1.bound, h2, h3.bound⟩
 len := fun ⟨c0, c1, c2, e, _⟩ => by rw [e]; rfl
 one := fun ⟨c0, c1, c2, e, h1, h2, h3⟩ u hu => by
  subst e h2
  simp at hu
  rcases hu with rfl | rfl | rfl
  ·exact h1.one
  ·rfl
  ·exact h3.one
 pos := by decide
abbrev nmE : El (List At) := lsE atE
instance : Inhabited Pr := ⟨⟨⟨#[]⟩, []⟩⟩
/-- Extensions. -/
structure Ex where
 hasCA : Bool
 ca : Bool
 path : Int
 usage : Int
 eku : List (List Int)
 princs : List Pr
 permit : List (List At)
 exclude : List (List At)
 odd : List Od
instance : Inhabited Ex := ⟨⟨false, false, 0, 0, [], [], [], [], []⟩⟩
/-- In nine cells. -/
structure ExC (S : Nat → Prop) (w : World) (x : Ex) (c0 c1 c2 c3 c4 c5 c6 c7 c8 : Value) : Prop where
 has : c0 = .bool x.hasCA
 ca : c1 = .bool x.ca
 path : c2 = .int .i64 x.path
 i64 : -9223372036854775808 ≤ x.path ∧ x.path ≤ 9223372036854775807
 usage : c3 = .int .u16 x.usage
 u16 : 0 ≤ x.usage ∧ x.usage ≤ 65535
 eku : LsC inE S w x.eku c4
 princs : LsC prE S w x.princs c5
 permit : LsC nmE S w x.permit c6
 exclude : LsC nmE S w x.exclude c7
 odd : LsC odE S w x.odd c8
theorem LsC.on {α : Type} {E : El α} {S S' : Nat → Prop} {w w' : World} {xs : List α} {c0 : Value} (h : LsC E S w xs c0) (hs : w.heap.size ≤ w'.heap.size) (hk : ∀ g, S g → g < w.heap.size → w'.heap[g]? = w.heap[g]?) (hS : ∀ g, S g → g < w.heap.size → S' g) : LsC E S' w' xs c0 := by
 obtain ⟨A, c, e, h1, h2, h3⟩ := h
 exact ⟨A, c, e, h1, h2, h3.on hs hk hS⟩
theorem LsC.below {α : Type} {E : El α} {S : Nat → Prop} {w w' : World} {xs : List α} {c0 : Value} (h : LsC E S w xs c0) (hb : Below w.heap.size w w') : LsC E S w' xs c0 := h.on hb.size (fun g _ hg => hb.block g hg) (fun g h _ => h)
theorem LsC.nil {α : Type} {E : El α} {S : Nat → Prop} {w : World} : LsC E S w [] (.slice none 0 0) := ⟨none, 0, rfl, Nat.le_refl _, Nat.zero_le _, Lst.nil _ _ _⟩
theorem ExC.on {S S' : Nat → Prop} {w w' : World} {x : Ex} {c0 c1 c2 c3 c4 c5 c6 c7 c8 : Value} (h : ExC S w x c0 c1 c2 c3 c4 c5 c6 c7 c8) (hs : w.heap.size ≤ w'.heap.size) (hk : ∀ g, S g → g < w.heap.size → w'.heap[g]? = w.heap[g]?) (hS : ∀ g, S g → g < w.heap.size → S' g) : ExC S' w' x c0 c1 c2 c3 c4 c5 c6 c7 c8 :=
 ⟨h.has, h.ca, h.path, h.i64, h.usage, h.u16, h.eku.on hs hk hS, h.princs.on hs hk hS, h.permit.on hs hk hS, h.exclude.on hs hk hS, h.odd.on hs hk hS⟩
theorem ExC.below {S : Nat → Prop} {w w' : World} {x : Ex} {c0 c1 c2 c3 c4 c5 c6 c7 c8 : Value} (h : ExC S w x c0 c1 c2 c3 c4 c5 c6 c7 c8) (hb : Below w.heap.size w w') : ExC S w' x c0 c1 c2 c3 c4 c5 c6 c7 c8 := h.on hb.size (fun g _ hg => hb.block g hg) (fun g h _ => h)
theorem InC.below {S : Nat → Prop} {w w' : World} {xs : List Int} {c0 : Value} (h : InC S w xs c0) (hb : Below w.heap.size w w') : InC S w' xs c0 := h.stays ⟨hb.size, fun p _ hl => hb.cell hl⟩
theorem ByC.below {S : Nat → Prop} {w w' : World} {xs : List Int} {c0 : Value} (h : ByC S w xs c0) (hb : Below w.heap.size w w') : ByC S w' xs c0 := h.stays ⟨hb.size, fun p _ hl => hb.cell hl⟩
theorem OdC.below {S : Nat → Prop} {w w' : World} {o : Od} {c0 c1 c2 : Value} (h : OdC S w o c0 c1 c2) (hb : Below w.heap.size w w') : OdC S w' o c0 c1 c2 := ⟨h.1.below hb, h.2.1, h.2.2.below hb⟩
theorem El.below {α : Type} {E : El α} {S : Nat → Prop} {w w' : World} {x : α} {cs : List Value} (h : E.hold S w x cs) (hb : Below w.heap.size w w') : E.hold S w' x cs := E.stays ⟨hb.size, fun p _ hl => hb.cell hl⟩ h
/-! ### As arguments -/
open Go.Proofs.YtdcpggodlggjjaaGreatDoor.dtc
theorem in_of {w : World} {d : Dt} {cs : List Value} (hs : IsSh (.row (.int .i64)) d) (h : Lies (fun _ => True) w d cs) (hf : fitDt d) : ∃ a : List Int, inE.hold (fun _ => True) w a cs ∧ True := by
 unfold IsSh at hs
 obtain ⟨l, rfl, hl⟩ := hs
 unfold Lies at h
 obtain ⟨A, c, rfl, k1, k2, k3⟩ := h
 obtain ⟨xs, hi⟩ := ins_of (A := A) (c := c) hl k3
 exact ⟨xs, ⟨_, rfl, A, l.length, c, rfl, k1, k2, hi, fun _ _ _ _ _ => trivial⟩, trivial⟩
theorem ls_of {α : Type} [Inhabited α] {E : El α} {s : Sh} {w : World} {P : α → Prop} (one : ∀ (d : Dt) (cs : List Value), IsSh s d → Lies (fun _ => True) w d cs → fitDt d → ∃ a : α, E.hold (fun _ => True) w a cs ∧ P a) (hsz : s.sz = E.sz) {d : Dt} {cs : List Value} (hs : IsSh (.row s) d) (h : Lies (fun _ => True) w d cs) (hf : fitDt d) : ∃ xs : List α, (∃ c0, cs = [c0] ∧ LsC E (fun _ => True) w xs c0) ∧ ∀ x ∈ xs, P x := by
 unfold IsSh at hs
 obtain ⟨l, rfl, hl⟩ := hs
 unfold Lies at h
 obtain ⟨A, c, rfl, k1, k2, k3⟩ := h
 unfold fitDt at hf
 obtain ⟨xs, h1, h2, h3⟩ := list_of one hsz hl hf (A := A) (fun hn => by
  obtain ⟨g, off, e, hg, _, hr⟩ := k3 hn
  rw [hsz] at hr ⊢
  exact ⟨g, off, e, hg, hr⟩)
 exact ⟨xs, ⟨_, rfl, A, c, by rw [h1], by rw [h1]; exact k1, k2, h2⟩, h3⟩
theorem nm_of {w : World} {d : Dt} {cs : List Value} (hs : IsSh (.row atS) d) (h : Lies (fun _ => True) w d cs) (hf : fitDt d) : ∃ a : List At, nmE.hold (fun _ => True) w a cs ∧ ∀ x ∈ a, x.text.size ≤ 140737488351232 :=
 ls_of (P := fun x : At => x.text.size ≤ 140737488351232) (fun d cs h1 h2 h3 => at_of h1 h2 h3) rfl hs h hf
theorem pr_of {w : World} {d : Dt} {cs : List Value} (hs : IsSh (.agg [.str, .row .str]) d) (h : Lies (fun _ => True) w d cs) (hf : fitDt d) : ∃ p : Pr, prE.hold (fun _ => True) w p cs ∧ True := by
 unfold IsSh at hs
 obtain ⟨l, rfl, hl⟩ := hs
 unfold Lies at h
 have hlen : cs.length = 2 := by
  match l, hl with
  | [d0, d1], hl =>
   unfold IsShs at hl
   obtain ⟨s0, hl⟩ := hl
   unfold IsShs at hl
   obtain ⟨s1, _⟩ := hl
   unfold IsSh at s0 s1
   obtain ⟨t, rfl⟩ := s0
   obtain ⟨l, rfl, _⟩ := s1
   unfold LiesAll at h
   obtain ⟨a, b, rfl, h0, h⟩ := h
   unfold LiesAll at h
   obtain ⟨a1, b1, rfl, h1, h⟩ := h
   unfold LiesAll at h
   subst h
   unfold Lies at h0 h1
   obtain ⟨rfl, _⟩ := h0
   obtain ⟨A, c, rfl, _⟩ := h1
   rfl
  | [], hs => unfold IsShs at hs; exact hs.elim
  | [_], hs => unfold IsShs at hs; obtain ⟨_, hs⟩ := hs; unfold IsShs at hs; exact hs.elim
  | _ :: _ :: _ :: _, hs => unfold IsShs at hs; obtain ⟨_, hs⟩ := hs; unfold IsShs at hs; obtain ⟨_, hs⟩ := hs; unfold IsShs at hs; exact hs.elim
 match cs, hlen with
 | [c0, c1], _ =>
  unfold fitDt at hf
  obtain ⟨p, hp, _⟩ := princ_of hl h hf
  exact ⟨p, ⟨c0, c1, rfl, hp⟩, trivial⟩
/-- The shape of an odd extension. -/
def odS : Sh := .agg [.row (.int .i64), .bool, .bys]
theorem od_of {w : World} {d : Dt} {cs : List Value} (hs : IsSh odS d) (h : Lies (fun _ => True) w d cs) (hf : fitDt d) : ∃ o : Od, odE.hold (fun _ => True) w o cs ∧ True := by
 unfold odS IsSh at hs
 obtain ⟨ds, rfl, hs⟩ := hs
 match ds, hs with
 | [d0, d1, d2], hs =>
  unfold IsShs at hs
  obtain ⟨s0, hs⟩ := hs
  unfold IsShs at hs
  obtain ⟨s1, hs⟩ := hs
  unfold IsShs at hs
  obtain ⟨s2, _⟩ := hs
  unfold IsSh at s1 s2
  obtain ⟨b, rfl⟩ := s1
  obtain ⟨xs, rfl⟩ := s2
  unfold fitDt fitDts at hf
  unfold Lies LiesAll at h
  obtain ⟨a, r, rfl, h0, h⟩ := h
  unfold LiesAll at h
  obtain ⟨a1, r1, rfl, h1, h⟩ := h
  unfold LiesAll at h
  obtain ⟨a2, r2, rfl, h2, h⟩ := h
  unfold LiesAll at h
  subst h
  obtain ⟨oid, ⟨c0, rfl, hi⟩, _⟩ := in_of s0 h0 hf.1
  unfold Lies at h1 h2
  subst h1
  obtain ⟨A, la, ca, rfl, k1, k2, k3, _⟩ := h2
  exact ⟨⟨oid, b, xs⟩, ⟨_, _, _, rfl, hi, rfl, A, la, ca, rfl, k1, k2, k3, fun _ _ _ _ _ => trivial⟩, trivial⟩
 | [], hs => unfold IsShs at hs; exact hs.elim
 | [_], hs => unfold IsShs at hs; obtain ⟨_, hs⟩ := hs; unfold IsShs at hs; exact hs.elim
 | [_, _], hs => unfold IsShs at hs; obtain ⟨_, hs⟩ := hs; unfold IsShs at hs; obtain ⟨_, hs⟩ := hs; unfold IsShs at hs; exact hs.elim
 | _ :: _ :: _ :: _ :: _, hs => unfold IsShs at hs; obtain ⟨_, hs⟩ := hs; unfold IsShs at hs; obtain ⟨_, hs⟩ := hs; unfold IsShs at hs; obtain ⟨_, hs⟩ := hs; unfold IsShs at hs; exact hs.elim
abbrev exS : List Sh := [.bool, .bool, .int .i64, .int .u16, .row (.row (.int .i64)), .row (.agg [.str, .row .str]), .row (.row atS), .row (.row atS), .row odS]
theorem ex_of {w : World} {l : List Dt} {c0 c1 c2 c3 c4 c5 c6 c7 c8 : Value} (hs : IsShs exS l) (h : LiesAll (fun _ => True) w l [c0, c1, c2, c3, c4, c5, c6, c7, c8]) (hf : fitDts l) : ∃ x : Ex, ExC (fun _ => True) w x c0 c1 c2 c3 c4 c5 c6 c7 c8 := by
 unfold exS at hs
 match l, hs with
 | [], hs => unfold IsShs at hs; exact hs.elim
 | d0 :: l, hs =>
 unfold IsShs at hs; obtain ⟨s0, hs⟩ := hs
 match l, hs with
 | [], hs => unfold IsShs at hs; exact hs.elim
 | d1 :: l, hs =>
 unfold IsShs at hs; obtain ⟨s1, hs⟩ := hs
 match l, hs with
 | [], hs => unfold IsShs at hs; exact hs.elim
 | d2 :: l, hs =>
 unfold IsShs at hs; obtain ⟨s2, hs⟩ := hs
 match l, hs with
 | [], hs => unfold IsShs at hs; exact hs.elim
 | d3 :: l, hs =>
 unfold IsShs at hs; obtain ⟨s3, hs⟩ := hs
 match l, hs with
 | [], hs => unfold IsShs at hs; exact hs.elim
 | d4 :: l, hs =>
 unfold IsShs at hs; obtain ⟨s4, hs⟩ := hs
 match l, hs with
 | [], hs => unfold IsShs at hs; exact hs.elim
 | d5 :: l, hs =>
 unfold IsShs at hs; obtain ⟨s5, hs⟩ := hs
 match l, hs with
 | [], hs => unfold IsShs at hs; exact hs.elim
 | d6 :: l, hs =>
 unfold IsShs at hs; obtain ⟨s6, hs⟩ := hs
 match l, hs with
 | [], hs => unfold IsShs at hs; exact hs.elim
 | d7 :: l, hs =>
 unfold IsShs at hs; obtain ⟨s7, hs⟩ := hs
 match l, hs with
 | [], hs => unfold IsShs at hs; exact hs.elim
 | d8 :: l, hs =>
 unfold IsShs at hs; obtain ⟨s8, hs⟩ := hs
 match l, hs with
 | _ :: _, hs => unfold IsShs at hs; exact hs.elim
 | [], _ =>
 unfold IsSh at s0 s1 s2 s3
 obtain ⟨b0, rfl⟩ := s0
 obtain ⟨b1, rfl⟩ := s1
 obtain ⟨n2, rfl⟩ := s2
 obtain ⟨n3, rfl⟩ := s3
 simp only [fitDts] at hf
 obtain ⟨_, _, _, _, f4, f5, f6, f7, f8, _⟩ := hf
 simp only [LiesAll] at h
 obtain ⟨a0, r0, e0, h0, a1, r1, e1, h1, a2, r2, e2, h2, a3, r3, e3, h3, a4, r4, e4, h4, a5, r5, e5, h5, a6, r6, e6, h6, a7, r7, e7, h7, a8, r8, e8, h8, e9⟩ := h
 subst e9
 unfold Lies at h0 h1 h2 h3
 subst h0 h1
 obtain ⟨rfl, w2⟩ := h2
 obtain ⟨rfl, w3⟩ := h3
 obtain ⟨x4, ⟨d4', rfl, k4⟩, _⟩ := ls_of (E := inE) (P := fun _ => True) (fun d cs h1 h2 h3 => in_of h1 h2 h3) rfl s4 h4 f4
 obtain ⟨x5, ⟨d5', rfl, k5⟩, _⟩ := ls_of (E := prE) (P := fun _ => True) (fun d cs h1 h2 h3 => pr_of h1 h2 h3) rfl s5 h5 f5
 obtain ⟨x6, ⟨d6', rfl, k6⟩, _⟩ := ls_of (E := nmE) (P := fun _ => True) (fun d cs h1 h2 h3 => by obtain ⟨a, ha, _⟩ := nm_of h1 h2 h3; exact ⟨a, ha, trivial⟩) rfl s6 h6 f6
 obtain ⟨x7, ⟨d7', rfl, k7⟩, _⟩ := ls_of (E := nmE) (P := fun _ => True) (fun d cs h1 h2 h3 => by obtain ⟨a, ha, _⟩ := nm_of h1 h2 h3; exact ⟨a, ha, trivial⟩) rfl s7 h7 f7
 obtain ⟨x8, ⟨d8', rfl, k8⟩, _⟩ := ls_of (E := odE) (P := fun _ => True) (fun d cs h1 h2 h3 => od_of h1 h2 h3) rfl s8 h8 f8
 subst e8 e7 e6 e5 e4 e3 e2 e1
 simp only [List.cons_append, List.nil_append, List.append_nil, List.cons.injEq, and_true] at e0
 obtain ⟨rfl, rfl, rfl, rfl, rfl, rfl, rfl, rfl, rfl⟩ := e0
 have b2 := bounds_i64 w2
 have b3 := bounds_u16 w3
 exact ⟨⟨b0, b1, n2, n3, x4, x5, x6, x7, x8⟩, rfl, rfl, rfl, by omega, rfl, b3, k4, k5, k6, k7, k8⟩
end Go.Proofs.YtdcpggodlggjjaaGreatDoor.nmc
