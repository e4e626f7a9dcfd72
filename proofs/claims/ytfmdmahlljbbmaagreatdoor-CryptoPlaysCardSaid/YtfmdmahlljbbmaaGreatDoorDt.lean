/- Data of any plain shape in memory: a tree of numbers, truths, texts, bytes, structs, lists and terms. Nothing here names the program. -/
import Derived.Test.YtfmdmahlljbbmaaGreatDoorTa
import Derived.Test.YtfmdmahlljbbmaaGreatDoorTh
namespace Go.Proofs.YtfmdmahlljbbmaaGreatDoor.dtc
open Go.ChangeShapes Go.WideShapes Go.ChangeAt Go.RowKit Go.Proofs.YtfmdmahlljbbmaaGreatDoor.tlvc Go.Proofs.YtfmdmahlljbbmaaGreatDoor.tmc
set_option linter.unusedVariables false
inductive Dt where
  | int (k : IntKind) (n : Int)
  | bool (b : Bool)
  | str (s : ByteArray)
  | bys (xs : List Int)
  | agg (l : List Dt)
  | row (sz : Nat) (l : List Dt)
  | tm (t : Tm)
instance : Inhabited Dt := ⟨.bool false⟩
mutual
/-- In the world w these cells hold the data; what they lead to lies in blocks of B. -/
def Lies (B : Nat → Prop) (w : World) : Dt → List Value → Prop
  | .int k n, cs => cs = [.int k n] ∧ (Lit.int k n).wf = true
  | .bool b, cs => cs = [.bool b]
  | .str s, cs => cs = [.string s] ∧ s.size ≤ maxLen
  | .bys xs, cs => ∃ A la ca, cs = [.slice A la ca] ∧ la ≤ ca ∧ ca ≤ maxLen ∧ Bys w A la xs ∧ (0 < la → ∀ g off sp, A = some ⟨g, off, sp⟩ → B g)
  | .agg l, cs => LiesAll B w l cs
  | .row sz l, cs => ∃ A c, cs = [.slice A l.length c] ∧ l.length ≤ c ∧ c ≤ maxLen ∧ (0 < l.length → ∃ g off, A = some ⟨g, off, none⟩ ∧ g < w.heap.size ∧ B g ∧ LiesRow B w g sz off l)
  | .tm t, cs => ∃ c0 c1 c2 c3, cs = [c0, c1, c2, c3] ∧ TmC B w t c0 c1 c2 c3
/-- One behind the other. -/
def LiesAll (B : Nat → Prop) (w : World) : List Dt → List Value → Prop
  | [], cs => cs = []
  | d :: ds, cs => ∃ a b, cs = a ++ b ∧ Lies B w d a ∧ LiesAll B w ds b
/-- From this cell on, each of so many cells. -/
def LiesRow (B : Nat → Prop) (w : World) (g sz : Nat) : Nat → List Dt → Prop
  | _, [] => True
  | off, d :: ds => (∃ cs : List Value, cs.length = sz ∧ (∀ j u, cs[j]? = some u → w.cell? ⟨g, off + j, none⟩ = some u) ∧ Lies B w d cs) ∧ LiesRow B w g sz (off + sz) ds
end
mutual
theorem Lies.stays {B : Nat → Prop} {w w' : World} (hs : Stays B w w') : ∀ (d : Dt) (cs : List Value), Lies B w d cs → Lies B w' d cs
  | .int k n, cs, h => by unfold Lies at h ⊢; exact h
  | .bool b, cs, h => by unfold Lies at h ⊢; exact h
  | .str s, cs, h => by unfold Lies at h ⊢; exact h
  | .bys xs, cs, h => by
    unfold Lies at h ⊢
    obtain ⟨A, la, ca, e, h1, h2, h3, hB⟩ := h
    exact ⟨A, la, ca, e, h1, h2, bys_stays hs h3 hB, hB⟩
  | .agg l, cs, h => by unfold Lies at h ⊢; exact LiesAll.stays hs l cs h
  | .row sz l, cs, h => by
    unfold Lies at h ⊢
    obtain ⟨A, c, e, h1, h2, h3⟩ := h
    refine ⟨A, c, e, h1, h2, fun hn => ?_⟩
    obtain ⟨g, off, eA, hg, hBg, hr⟩ := h3 hn
    exact ⟨g, off, eA, Nat.lt_of_lt_of_le hg hs.1, hBg, LiesRow.stays hs hg hBg l off hr⟩
  | .tm t, cs, h => by
    unfold Lies at h ⊢
    obtain ⟨c0, c1, c2, c3, e, hc⟩ := h
    exact ⟨c0, c1, c2, c3, e, TmC.stays hs _ _ _ _ _ hc⟩
theorem LiesAll.stays {B : Nat → Prop} {w w' : World} (hs : Stays B w w') : ∀ (l : List Dt) (cs : List Value), LiesAll B w l cs → LiesAll B w' l cs
  | [], cs, h => by unfold LiesAll at h ⊢; exact h
  | d :: ds, cs, h => by
    unfold LiesAll at h ⊢
    obtain ⟨a, b, e, h1, h2⟩ := h
    exact ⟨a, b, e, Lies.stays hs d a h1, LiesAll.stays hs ds b h2⟩
theorem LiesRow.stays {B : Nat → Prop} {w w' : World} (hs : Stays B w w') {g sz : Nat} (hg : g < w.heap.size) (hB : B g) : ∀ (l : List Dt) (off : Nat), LiesRow B w g sz off l → LiesRow B w' g sz off l
  | [], off, h => by unfold LiesRow; trivial
  | d :: ds, off, h => by
    unfold LiesRow at h ⊢
    obtain ⟨⟨cs, h0, h1, h2⟩, h3⟩ := h
    exact ⟨⟨cs, h0, fun j u hu => (hs.2 ⟨g, off + j, none⟩ hB hg).trans (h1 j u hu), Lies.stays hs d cs h2⟩, LiesRow.stays hs hg hB ds (off + sz) h3⟩
end
theorem Lies.below {B : Nat → Prop} {w w' : World} (hb : Below w.heap.size w w') {d : Dt} {cs : List Value} (h : Lies B w d cs) : Lies B w' d cs := Lies.stays (stays_below hb B) d cs h
mutual
theorem Lies.mono {B B' : Nat → Prop} {w : World} (hB : ∀ g, B g → B' g) : ∀ (d : Dt) (cs : List Value), Lies B w d cs → Lies B' w d cs
  | .int k n, cs, h => by unfold Lies at h ⊢; exact h
  | .bool b, cs, h => by unfold Lies at h ⊢; exact h
  | .str s, cs, h => by unfold Lies at h ⊢; exact h
  | .bys xs, cs, h => by
    unfold Lies at h ⊢
    obtain ⟨A, la, ca, e, h1, h2, h3, h4⟩ := h
    exact ⟨A, la, ca, e, h1, h2, h3, fun hl g off sp e => hB _ (h4 hl g off sp e)⟩
  | .agg l, cs, h => by unfold Lies at h ⊢; exact LiesAll.mono hB l cs h
  | .row sz l, cs, h => by
    unfold Lies at h ⊢
    obtain ⟨A, c, e, h1, h2, h3⟩ := h
    refine ⟨A, c, e, h1, h2, fun hn => ?_⟩
    obtain ⟨g, off, eA, hg, hBg, hr⟩ := h3 hn
    exact ⟨g, off, eA, hg, hB _ hBg, LiesRow.mono hB l off hr⟩
  | .tm t, cs, h => by
    unfold Lies at h ⊢
    obtain ⟨c0, c1, c2, c3, e, hc⟩ := h
    exact ⟨c0, c1, c2, c3, e, TmC.mono hB _ _ _ _ _ hc⟩
theorem LiesAll.mono {B B' : Nat → Prop} {w : World} (hB : ∀ g, B g → B' g) : ∀ (l : List Dt) (cs : List Value), LiesAll B w l cs → LiesAll B' w l cs
  | [], cs, h => by unfold LiesAll at h ⊢; exact h
  | d :: ds, cs, h => by
    unfold LiesAll at h ⊢
    obtain ⟨a, b, e, h1, h2⟩ := h
    exact ⟨a, b, e, Lies.mono hB d a h1, LiesAll.mono hB ds b h2⟩
theorem LiesRow.mono {B B' : Nat → Prop} {w : World} (hB : ∀ g, B g → B' g) {g sz : Nat} : ∀ (l : List Dt) (off : Nat), LiesRow B w g sz off l → LiesRow B' w g sz off l
  | [], off, h => by unfold LiesRow; trivial
  | d :: ds, off, h => by
    unfold LiesRow at h ⊢
    obtain ⟨⟨cs, h0, h1, h2⟩, h3⟩ := h
    exact ⟨⟨cs, h0, h1, Lies.mono hB d cs h2⟩, LiesRow.mono hB ds (off + sz) h3⟩
end
mutual
/-- What lies in blocks of the world itself. -/
theorem Lies.bound {B : Nat → Prop} {w : World} : ∀ (d : Dt) (cs : List Value), Lies B w d cs → Lies (fun g => B g ∧ g < w.heap.size) w d cs
  | .int k n, cs, h => by unfold Lies at h ⊢; exact h
  | .bool b, cs, h => by unfold Lies at h ⊢; exact h
  | .str s, cs, h => by unfold Lies at h ⊢; exact h
  | .bys xs, cs, h => by
    unfold Lies at h ⊢
    obtain ⟨A, la, ca, e, h1, h2, h3, h4⟩ := h
    refine ⟨A, la, ca, e, h1, h2, h3, fun hl g off sp e => ⟨h4 hl g off sp e, ?_⟩⟩
    obtain ⟨b', off', e', hb', _⟩ := h3.2.2 hl
    rw [e'] at e; cases e; exact hb'
  | .agg l, cs, h => by unfold Lies at h ⊢; exact LiesAll.bound l cs h
  | .row sz l, cs, h => by
    unfold Lies at h ⊢
    obtain ⟨A, c, e, h1, h2, h3⟩ := h
    refine ⟨A, c, e, h1, h2, fun hn => ?_⟩
    obtain ⟨g, off, eA, hg, hBg, hr⟩ := h3 hn
    exact ⟨g, off, eA, hg, ⟨hBg, hg⟩, LiesRow.bound l off hr⟩
  | .tm t, cs, h => by
    unfold Lies at h ⊢
    obtain ⟨c0, c1, c2, c3, e, hc⟩ := h
    exact ⟨c0, c1, c2, c3, e, TmC.bound _ _ _ _ _ hc⟩
theorem LiesAll.bound {B : Nat → Prop} {w : World} : ∀ (l : List Dt) (cs : List Value), LiesAll B w l cs → LiesAll (fun g => B g ∧ g < w.heap.size) w l cs
  | [], cs, h => by unfold LiesAll at h ⊢; exact h
  | d :: ds, cs, h => by
    unfold LiesAll at h ⊢
    obtain ⟨a, b, e, h1, h2⟩ := h
    exact ⟨a, b, e, Lies.bound d a h1, LiesAll.bound ds b h2⟩
theorem LiesRow.bound {B : Nat → Prop} {w : World} {g sz : Nat} : ∀ (l : List Dt) (off : Nat), LiesRow B w g sz off l → LiesRow (fun g => B g ∧ g < w.heap.size) w g sz off l
  | [], off, h => by unfold LiesRow; trivial
  | d :: ds, off, h => by
    unfold LiesRow at h ⊢
    obtain ⟨⟨cs, h0, h1, h2⟩, h3⟩ := h
    exact ⟨⟨cs, h0, h1, Lies.bound d cs h2⟩, LiesRow.bound ds (off + sz) h3⟩
end
theorem LiesRow.of {B : Nat → Prop} {w : World} {g sz : Nat} : ∀ {l : List Dt} {off : Nat}, (∀ (i : Nat) (hi : i < l.length), ∃ cs : List Value, cs.length = sz ∧ (∀ j u, cs[j]? = some u → w.cell? ⟨g, off + i * sz + j, none⟩ = some u) ∧ Lies B w l[i] cs) → LiesRow B w g sz off l
  | [], _, _ => by unfold LiesRow; trivial
  | d :: ds, off, h => by
    unfold LiesRow
    refine ⟨?_, LiesRow.of fun i hi => ?_⟩
    · obtain ⟨cs, h0, h1, h2⟩ := h 0 (by simp)
      exact ⟨cs, h0, fun j u hu => by have := h1 j u hu; simpa using this, h2⟩
    · obtain ⟨cs, h0, h1, h2⟩ := h (i + 1) (by simpa using hi)
      refine ⟨cs, h0, fun j u hu => ?_, h2⟩
      have := h1 j u hu
      rwa [show off + (i + 1) * sz + j = off + sz + i * sz + j by rw [Nat.succ_mul]; omega] at this
theorem LiesRow.at {B : Nat → Prop} {w : World} {g sz : Nat} : ∀ {l : List Dt} {off : Nat}, LiesRow B w g sz off l → ∀ (i : Nat) (hi : i < l.length), ∃ cs : List Value, cs.length = sz ∧ (∀ j u, cs[j]? = some u → w.cell? ⟨g, off + i * sz + j, none⟩ = some u) ∧ Lies B w l[i] cs
  | [], _, _, _, hi => absurd hi (by simp)
  | d :: ds, off, h, 0, _ => by
    unfold LiesRow at h
    obtain ⟨⟨cs, h0, h1, h2⟩, _⟩ := h
    exact ⟨cs, h0, fun j u hu => by simpa using h1 j u hu, h2⟩
  | d :: ds, off, h, i + 1, hi => by
    unfold LiesRow at h
    obtain ⟨cs, h0, h1, h2⟩ := LiesRow.at h.2 i (by simpa using hi)
    refine ⟨cs, h0, fun j u hu => ?_, h2⟩
    rw [show off + (i + 1) * sz + j = off + sz + i * sz + j by rw [Nat.succ_mul]; omega]
    exact h1 j u hu
/-! ### Shapes, and how an argument is opened -/
inductive Sh where
  | int (k : IntKind)
  | bool
  | str
  | bys
  | agg (l : List Sh)
  | row (s : Sh)
  | tm
mutual
def Sh.sz : Sh → Nat
  | .agg l => szs l
  | .tm => 4
  | .int _ => 1
  | .bool => 1
  | .str => 1
  | .bys => 1
  | .row _ => 1
def szs : List Sh → Nat
  | [] => 0
  | s :: ss => s.sz + szs ss
end
mutual
/-- The data have that shape. -/
def IsSh : Sh → Dt → Prop
  | .int k, d => ∃ n, d = .int k n
  | .bool, d => ∃ b, d = .bool b
  | .str, d => ∃ s, d = .str s
  | .bys, d => ∃ xs, d = .bys xs
  | .agg l, d => ∃ ds, d = .agg ds ∧ IsShs l ds
  | .row s, d => ∃ ds, d = .row s.sz ds ∧ ∀ x ∈ ds, IsSh s x
  | .tm, d => ∃ t, d = .tm t
def IsShs : List Sh → List Dt → Prop
  | [], [] => True
  | s :: ss, d :: ds => IsSh s d ∧ IsShs ss ds
  | [], _ :: _ => False
  | _ :: _, [] => False
end
mutual
/-- No list takes more than memory bears. -/
def fitDt : Dt → Prop
  | .int _ _ => True
  | .bool _ => True
  | .str s => s.size ≤ 140737488351232
  | .bys xs => xs.length ≤ 140737488351232
  | .agg l => fitDts l
  | .row _ l => fitDts l
  | .tm t => fitD t
def fitDts : List Dt → Prop
  | [] => True
  | d :: ds => fitDt d ∧ fitDts ds
end
theorem fitDts_all : ∀ {l : List Dt}, fitDts l ↔ ∀ d ∈ l, fitDt d
  | [] => by unfold fitDts; simp
  | d :: ds => by unfold fitDts; rw [fitDts_all]; simp
mutual
/-- A type of the program's has that shape. -/
def Fits (P : Program) : Sh → TypeId → Prop
  | .int k, T => P.underlying T = some (.int k) ∧ P.cellsOf T = 1
  | .bool, T => P.underlying T = some .bool ∧ P.cellsOf T = 1
  | .str, T => P.underlying T = some .string ∧ P.cellsOf T = 1
  | .bys, T => ∃ U, P.underlying T = some (.slice U) ∧ P.underlying U = some (.int .u8) ∧ P.cellsOf U = 1 ∧ P.bytesOf U = 1 ∧ P.cellsOf T = 1
  | .agg l, T => ∃ fs : Array Field, P.underlying T = some (.struct fs) ∧ P.cellsOf T = szs l ∧ FitsAll P 0 l fs.toList
  | .row s, T => ∃ U, P.underlying T = some (.slice U) ∧ Fits P s U ∧ P.cellsOf T = 1 ∧ 0 < s.sz
  | .tm, T => Nonempty (TmT P T)
def FitsAll (P : Program) : Nat → List Sh → List Field → Prop
  | _, [], [] => True
  | off, s :: ss, f :: fs => f.offset = off ∧ Fits P s f.type ∧ FitsAll P (off + s.sz) ss fs
  | _, [], _ :: _ => False
  | _, _ :: _, [] => False
end
section
variable {P : Program} {T : TypeId}
theorem fit_int {k : IntKind} (h : P.underlying T = some (.int k)) (hc : P.cellsOf T = 1) : Fits P (.int k) T := by unfold Fits; exact ⟨h, hc⟩
theorem fit_bool (h : P.underlying T = some .bool) (hc : P.cellsOf T = 1) : Fits P .bool T := by unfold Fits; exact ⟨h, hc⟩
theorem fit_str (h : P.underlying T = some .string) (hc : P.cellsOf T = 1) : Fits P .str T := by unfold Fits; exact ⟨h, hc⟩
theorem fit_bys {U : TypeId} (h : P.underlying T = some (.slice U)) (hU : P.underlying U = some (.int .u8)) (hc : P.cellsOf U = 1) (hb : P.bytesOf U = 1) (hT : P.cellsOf T = 1) : Fits P .bys T := by unfold Fits; exact ⟨U, h, hU, hc, hb, hT⟩
theorem fit_agg {l : List Sh} {fs : Array Field} (h : P.underlying T = some (.struct fs)) (hc : P.cellsOf T = szs l) (hf : FitsAll P 0 l fs.toList) : Fits P (.agg l) T := by unfold Fits; exact ⟨fs, h, hc, hf⟩
theorem fit_row {s : Sh} {U : TypeId} (h : P.underlying T = some (.slice U)) (hs : Fits P s U) (hc : P.cellsOf T = 1) (hz : decide (0 < s.sz) = true) : Fits P (.row s) T := by unfold Fits; exact ⟨U, h, hs, hc, of_decide_eq_true hz⟩
theorem fit_tm (X : TmT P T) : Fits P .tm T := by unfold Fits; exact ⟨X⟩
theorem fits_nil {off : Nat} : FitsAll P off [] [] := by unfold FitsAll; trivial
theorem fits_cons {off : Nat} {s : Sh} {ss : List Sh} {f : Field} {fs : List Field} (ho : f.offset = off) (hs : Fits P s f.type) (hr : FitsAll P (off + s.sz) ss fs) : FitsAll P off (s :: ss) (f :: fs) := by unfold FitsAll; exact ⟨ho, hs, hr⟩
theorem Fits.cells : ∀ {s : Sh}, Fits P s T → P.cellsOf T = s.sz
  | .int k, h => by unfold Fits at h; unfold Sh.sz; exact h.2
  | .bool, h => by unfold Fits at h; unfold Sh.sz; exact h.2
  | .str, h => by unfold Fits at h; unfold Sh.sz; exact h.2
  | .bys, h => by unfold Fits at h; unfold Sh.sz; obtain ⟨_, _, _, _, _, h⟩ := h; exact h
  | .agg l, h => by unfold Fits at h; unfold Sh.sz; obtain ⟨_, _, h, _⟩ := h; exact h
  | .row s, h => by unfold Fits at h; unfold Sh.sz; obtain ⟨_, _, _, h, _⟩ := h; exact h
  | .tm, h => by unfold Fits at h; unfold Sh.sz; obtain ⟨X⟩ := h; exact X.hC
end
end Go.Proofs.YtfmdmahlljbbmaaGreatDoor.dtc
