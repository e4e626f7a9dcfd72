/- Names and principals as lists in memory; nodes as such; how they come in as arguments. Nothing here names the program. -/
import Derived.Test.YthcancakkkjpaaaGreatDoorRa
import Derived.Test.YthcancakkkjpaaaGreatDoorKb
import Derived.Laws.IdiomStrings
namespace Go.Proofs.YthcancakkkjpaaaGreatDoor.nmc
open Go.RowKit Go.Proofs.YthcancakkkjpaaaGreatDoor.tlvc Go.Proofs.YthcancakkkjpaaaGreatDoor.ndc
set_option linter.unusedVariables false
/-- A text's bytes, as numbers. -/
def bytesI (s : ByteArray) : List Int := s.data.toList.map fun b => (b.toNat : Int)
theorem bytesI_length (s : ByteArray) : (bytesI s).length = s.size := by unfold bytesI; rw [List.length_map]; exact Array.length_toList
theorem bytesI_fit (s : ByteArray) : Fit (bytesI s) := fun x hx => by
  obtain ⟨b, _, rfl⟩ := List.mem_map.1 hx
  have := b.toNat_lt
  omega
theorem str_bytesI (s : ByteArray) : strOfNums (bytesI s) = s := by
  apply ByteArray.ext
  apply Array.ext'
  show (strOfNums (bytesI s)).data.toList = _
  rw [strOfNums_data]
  unfold bytesI
  rw [List.map_map]
  conv => rhs; rw [← List.map_id s.data.toList]
  apply List.map_congr_left
  intro b _
  show UInt8.ofNat ((b.toNat : Int)).toNat = b
  rw [Int.toNat_natCast]
  exact UInt8.ofNat_toNat
theorem bytesI_str {xs : List Int} (h : Fit xs) : bytesI (strOfNums xs) = xs := by
  unfold bytesI
  rw [strOfNums_data, List.map_map]
  conv => rhs; rw [← List.map_id xs]
  apply List.map_congr_left
  intro x hx
  have := h x hx
  show ((UInt8.ofNat x.toNat).toNat : Int) = x
  rw [UInt8.toNat_ofNat']
  omega
theorem bytesI_inj {s t : ByteArray} (h : bytesI s = bytesI t) : s = t := by rw [← str_bytesI s, h, str_bytesI]
/-- What '[]byte(s)' lays reads as the text's bytes. -/
theorem bys_conv {w : World} {s : ByteArray} {cap : Nat} {e : TypeId} {fr : Nat × Nat} (hc : s.size ≤ cap) : Bys (w.alloc (.cells (bytesRow s cap) e fr)) (some ⟨w.heap.size, 0, none⟩) s.size (bytesI s) := by
  refine ⟨bytesI_length s, bytesI_fit s, fun _ => ⟨_, 0, rfl, by simp, fun j hj => ?_⟩⟩
  rw [Nat.zero_add, World.cell?_alloc_mark]
  have hlt : j < s.data.size := hj
  unfold bytesRow bytesI
  rw [Array.getElem?_append_left (by simpa using hlt), Array.getElem?_map, Array.getElem?_eq_getElem hlt]
  simp [List.getD_eq_getElem?_getD, List.getElem?_map, Array.getElem?_toList, Array.getElem?_eq_getElem hlt]
/-! ### Kinds of elements -/
/-- A part of a name: its object, its text. -/
structure At where
  oid : List Int
  text : ByteArray
instance : Inhabited At := ⟨⟨[], ⟨#[]⟩⟩⟩
theorem ins_stays {S : Nat → Prop} {w w' : World} (hs : Stays S w w') {A : Option Addr} {n : Nat} {xs : List Int} (h : Ins w A n xs) (hB : 0 < n → ∀ g off sp, A = some ⟨g, off, sp⟩ → S g) : Ins w' A n xs :=
  ⟨h.1, h.2.1, fun hn => by
    obtain ⟨b, off, e, hb, hc⟩ := h.2.2 hn
    exact ⟨b, off, e, Nat.lt_of_lt_of_le hb hs.1, fun j hj => (hs.2 ⟨b, off + j, none⟩ (hB hn b off none e) hb).trans (hc j hj)⟩⟩
def AtC (S : Nat → Prop) (w : World) (a : At) (c0 c1 : Value) : Prop := ∃ A la ca, c0 = .slice A la ca ∧ c1 = .string a.text ∧ la ≤ ca ∧ ca ≤ maxLen ∧ Ins w A la a.oid ∧ (0 < la → ∀ g off sp, A = some ⟨g, off, sp⟩ → S g) ∧ a.text.size ≤ maxLen
def atE : El At where
  sz := 2
  hold S w a cs := ∃ c0 c1, cs = [c0, c1] ∧ AtC S w a c0 c1
  stays := fun hs ⟨c0, c1, e, A, la, ca, e0, e1, h1, h2, h3, h4, h5⟩ => ⟨c0, c1, e, A, la, ca, e0, e1, h1, h2, ins_stays hs h3 h4, h4, h5⟩
  mono := fun hS ⟨c0, c1, e, A, la, ca, e0, e1, h1, h2, h3, h4, h5⟩ => ⟨c0, c1, e, A, la, ca, e0, e1, h1, h2, h3, fun hl g off sp e => hS _ (h4 hl g off sp e), h5⟩
  bound := fun ⟨c0, c1, e, A, la, ca, e0, e1, h1, h2, h3, h4, h5⟩ => ⟨c0, c1, e, A, la, ca, e0, e1, h1, h2, h3, fun hl g off sp e => ⟨h4 hl g off sp e, by
    obtain ⟨b', off', e', hb', _⟩ := h3.2.2 hl
    rw [e'] at e; cases e; exact hb'⟩, h5⟩
  len := fun ⟨c0, c1, e, _⟩ => by rw [e]; rfl
  one := fun ⟨c0, c1, e, A, la, ca, e0, e1, _⟩ u hu => by
    subst e e0 e1
    simp at hu
    rcases hu with rfl | rfl <;> rfl
  pos := by decide
def stE : El ByteArray where
  sz := 1
  hold S w s cs := cs = [.string s] ∧ s.size ≤ maxLen
  stays := fun _ h => h
  mono := fun _ h => h
  bound := fun h => h
  len := fun ⟨e, _⟩ => by rw [e]; rfl
  one := fun ⟨e, _⟩ u hu => by
    subst e
    simp at hu
    subst hu; rfl
  pos := by decide
def ndE : El Nd where
  sz := 3
  hold S w n cs := ∃ c0 c1 c2, cs = [c0, c1, c2] ∧ NdC S w n c0 c1 c2
  stays := fun hs ⟨c0, c1, c2, e, h⟩ => ⟨c0, c1, c2, e, NdC.stays hs _ _ _ _ h⟩
  mono := fun hS ⟨c0, c1, c2, e, h⟩ => ⟨c0, c1, c2, e, NdC.mono hS _ _ _ _ h⟩
  bound := fun ⟨c0, c1, c2, e, h⟩ => ⟨c0, c1, c2, e, NdC.bound _ _ _ _ h⟩
  len := fun ⟨c0, c1, c2, e, _⟩ => by rw [e]; rfl
  one := fun {S w n cs} ⟨c0, c1, c2, e, h⟩ u hu => by
    subst e
    obtain ⟨t, b, ks⟩ := n
    unfold NdC at h
    obtain ⟨rfl, _, ⟨A, la, ca, rfl, _⟩, K, ck, rfl, _⟩ := h
    simp at hu
    rcases hu with rfl | rfl | rfl <;> rfl
  pos := by decide
theorem Lst.kids {B : Nat → Prop} {w : World} {K : Option Addr} {ks : List Nd} (h : Lst ndE B w K ks) : 0 < ks.length → ∃ g off, K = some ⟨g, off, none⟩ ∧ g < w.heap.size ∧ B g ∧ KidsC B w g off ks := fun hn => by
  obtain ⟨g, off, e, hg, hB, hc⟩ := h hn
  refine ⟨g, off, e, hg, hB, KidsC.of fun i hi => ?_⟩
  obtain ⟨cs, h1, c0, c1, c2, rfl, h2⟩ := hc i hi
  exact ⟨c0, c1, c2, h1 0 c0 rfl, h1 1 c1 rfl, h1 2 c2 rfl, h2⟩
theorem lst_kids {B : Nat → Prop} {w : World} {K : Option Addr} {ks : List Nd} (h : 0 < ks.length → ∃ g off, K = some ⟨g, off, none⟩ ∧ g < w.heap.size ∧ B g ∧ KidsC B w g off ks) : Lst ndE B w K ks := fun hn => by
  obtain ⟨g, off, e, hg, hB, hc⟩ := h hn
  refine ⟨g, off, e, hg, hB, fun i hi => ?_⟩
  obtain ⟨c0, c1, c2, h0, h1, h2, hk⟩ := hc.at i hi
  refine ⟨[c0, c1, c2], fun j u hu => ?_, c0, c1, c2, rfl, hk⟩
  match j, hu with
  | 0, hu => simp at hu; subst hu; exact h0
  | 1, hu => simp at hu; subst hu; exact h1
  | 2, hu => simp at hu; subst hu; exact h2
  | j + 3, hu => simp at hu
/-- A node of kids that lie in a list. -/
theorem ndC_of {B : Nat → Prop} {w : World} {t : Int} {K : Option Addr} {ck : Nat} {ks : List Nd} (ht : 0 ≤ t ∧ t ≤ 255) (hc : ks.length ≤ ck) (hm : ck ≤ maxLen) (h : Lst ndE B w K ks) : NdC B w (.mk t [] ks) (.int .u8 t) (.slice none 0 0) (.slice K ks.length ck) := by
  unfold NdC
  exact ⟨rfl, ht, ⟨none, 0, 0, rfl, Nat.le_refl _, Nat.zero_le _, Bys.nil_ _ _, fun h => absurd h (by omega)⟩, K, ck, rfl, hc, hm, h.kids⟩
/-- A node of bytes alone. -/
theorem ndC_leaf {B : Nat → Prop} {w : World} {t : Int} {A : Option Addr} {la ca : Nat} {b : List Int} (ht : 0 ≤ t ∧ t ≤ 255) (hc : la ≤ ca) (hm : ca ≤ maxLen) (h : Bys w A la b) (hB : 0 < la → ∀ g off sp, A = some ⟨g, off, sp⟩ → B g) : NdC B w (.mk t b []) (.int .u8 t) (.slice A la ca) (.slice none 0 0) := by
  unfold NdC
  exact ⟨rfl, ht, ⟨A, la, ca, rfl, hc, hm, h, hB⟩, none, 0, rfl, Nat.le_refl _, Nat.zero_le _, fun h => absurd h (by simp)⟩
theorem NdC.kidsL {B : Nat → Prop} {w : World} {t : Int} {b : List Int} {ks : List Nd} {c0 c1 c2 : Value} (h : NdC B w (.mk t b ks) c0 c1 c2) : c0 = .int .u8 t ∧ (0 ≤ t ∧ t ≤ 255) ∧ (∃ A la ca, c1 = .slice A la ca ∧ la ≤ ca ∧ ca ≤ maxLen ∧ Bys w A la b ∧ (0 < la → ∀ g off sp, A = some ⟨g, off, sp⟩ → B g)) ∧ ∃ K ck, c2 = .slice K ks.length ck ∧ ks.length ≤ ck ∧ ck ≤ maxLen ∧ Lst ndE B w K ks := by
  unfold NdC at h
  obtain ⟨h0, h1, h2, K, ck, h3, h4, h5, h6⟩ := h
  exact ⟨h0, h1, h2, K, ck, h3, h4, h5, lst_kids h6⟩
/-- A principal: its realm, its names. -/
structure Pr where
  realm : ByteArray
  names : List ByteArray
def PrC (S : Nat → Prop) (w : World) (p : Pr) (c0 c1 : Value) : Prop := ∃ A c, c0 = .string p.realm ∧ c1 = .slice A p.names.length c ∧ p.names.length ≤ c ∧ c ≤ maxLen ∧ Lst stE S w A p.names ∧ p.realm.size ≤ maxLen
/-! ### As arguments -/
open Go.Proofs.YthcancakkkjpaaaGreatDoor.dtc
theorem ints_of {w : World} : ∀ (l : List Dt), (∀ x ∈ l, IsSh (.int .i64) x) → ∃ xs : List Int, xs.length = l.length ∧ ∀ (g sz off : Nat), LiesRow (fun _ => True) w g sz off l → sz = 1 → Fit8 xs ∧ ∀ j, j < xs.length → w.cell? ⟨g, off + j, none⟩ = some (.int .i64 (xs.getD j 0))
  | [], _ => ⟨[], rfl, fun g sz off _ _ => ⟨fun x hx => by simp at hx, fun j hj => by simp at hj⟩⟩
  | x :: l, h => by
    obtain ⟨n, rfl⟩ : ∃ n, x = .int .i64 n := by have := h x (by simp); unfold IsSh at this; exact this
    obtain ⟨xs, hl, hr⟩ := ints_of (w := w) l (fun y hy => h y (by simp [hy]))
    refine ⟨n :: xs, by simp [hl], fun g sz off hL hz => ?_⟩
    subst hz
    unfold LiesRow at hL
    obtain ⟨⟨cs, h0, h1, h2⟩, h3⟩ := hL
    unfold Lies at h2
    obtain ⟨rfl, hw⟩ := h2
    obtain ⟨k1, k2⟩ := hr g 1 (off + 1) h3 rfl
    refine ⟨fun y hy => ?_, fun j hj => ?_⟩
    · rcases List.mem_cons.1 hy with rfl | hy
      · have := bounds_i64 hw; omega
      · exact k1 y hy
    · match j, hj with
      | 0, _ => simpa using h1 0 _ rfl
      | j + 1, hj =>
        have := k2 j (by simpa using hj)
        rw [show off + (j + 1) = off + 1 + j by omega]
        simpa using this
theorem ins_of {w : World} {l : List Dt} {A : Option Addr} {c : Nat} (hs : ∀ x ∈ l, IsSh (.int .i64) x) (hr : 0 < l.length → ∃ g off, A = some ⟨g, off, none⟩ ∧ g < w.heap.size ∧ True ∧ LiesRow (fun _ => True) w g 1 off l) : ∃ xs, Ins w A l.length xs := by
  obtain ⟨xs, hl, h⟩ := ints_of (w := w) l hs
  by_cases h0 : 0 < l.length
  · obtain ⟨g, off, e, hg, _, hL⟩ := hr h0
    obtain ⟨k1, k2⟩ := h g 1 off hL rfl
    exact ⟨xs, hl, k1, fun _ => ⟨g, off, e, hg, fun j hj => k2 j (by omega)⟩⟩
  · have : xs = [] := List.eq_nil_of_length_eq_zero (by omega)
    subst this
    exact ⟨[], hl, fun x hx => by simp at hx, fun hn => absurd hn h0⟩
/-- The shape of a part of a name. -/
def atS : Sh := .agg [.row (.int .i64), .str]
theorem at_of {w : World} {d : Dt} {cs : List Value} (hs : IsSh atS d) (h : Lies (fun _ => True) w d cs) (hf : fitDt d) : ∃ a : At, atE.hold (fun _ => True) w a cs ∧ a.text.size ≤ 140737488351232 := by
  unfold atS IsSh at hs
  obtain ⟨ds, rfl, hs⟩ := hs
  match ds, hs with
  | [d0, d1], hs =>
    unfold IsShs at hs
    obtain ⟨s0, hs⟩ := hs
    unfold IsShs at hs
    obtain ⟨s1, _⟩ := hs
    unfold IsSh at s0 s1
    obtain ⟨l, rfl, hl⟩ := s0
    obtain ⟨t, rfl⟩ := s1
    unfold Lies LiesAll at h
    obtain ⟨a, b, rfl, h0, h⟩ := h
    unfold LiesAll at h
    obtain ⟨a1, b1, rfl, h1, h⟩ := h
    unfold LiesAll at h
    subst h
    unfold Lies at h0 h1
    obtain ⟨A, c, rfl, k1, k2, k3⟩ := h0
    obtain ⟨rfl, k4⟩ := h1
    obtain ⟨xs, hi⟩ := ins_of (A := A) (c := c) hl k3
    unfold fitDt fitDts at hf
    obtain ⟨_, hf⟩ := hf
    unfold fitDts at hf
    have hf := hf.1
    unfold fitDt at hf
    exact ⟨⟨xs, t⟩, ⟨_, _, rfl, A, l.length, c, rfl, rfl, k1, k2, hi, fun _ _ _ _ _ => trivial, k4⟩, hf⟩
  | [], hs => unfold IsShs at hs; exact hs.elim
  | [_], hs => unfold IsShs at hs; obtain ⟨_, hs⟩ := hs; unfold IsShs at hs; exact hs.elim
  | _ :: _ :: _ :: _, hs => unfold IsShs at hs; obtain ⟨_, hs⟩ := hs; unfold IsShs at hs; obtain ⟨_, hs⟩ := hs; unfold IsShs at hs; exact hs.elim
theorem list_of {α : Type} [Inhabited α] {E : El α} {s : Sh} {w : World} {P : α → Prop} (one : ∀ (d : Dt) (cs : List Value), IsSh s d → Lies (fun _ => True) w d cs → fitDt d → ∃ a : α, E.hold (fun _ => True) w a cs ∧ P a) (hsz : s.sz = E.sz) {l : List Dt} (hs : ∀ x ∈ l, IsSh s x) (hf : fitDts l) {A : Option Addr}
    (hr : 0 < l.length → ∃ g off, A = some ⟨g, off, none⟩ ∧ g < w.heap.size ∧ LiesRow (fun _ => True) w g s.sz off l) : ∃ xs : List α, xs.length = l.length ∧ Lst E (fun _ => True) w A xs ∧ ∀ x ∈ xs, P x := by
  by_cases h0 : 0 < l.length
  · obtain ⟨g, off, e, hg, hL⟩ := hr h0
    have each : ∀ i, i < l.length → ∃ a : α, (∃ cs : List Value, (∀ j u, cs[j]? = some u → w.cell? ⟨g, off + i * E.sz + j, none⟩ = some u) ∧ E.hold (fun _ => True) w a cs) ∧ P a := fun i hi => by
      obtain ⟨cs, k0, k1, k2⟩ := hL.at i hi
      obtain ⟨a, k3, k4⟩ := one l[i] cs (hs _ (List.getElem_mem _)) k2 (fitDts_all.1 hf _ (List.getElem_mem _))
      exact ⟨a, ⟨cs, by rw [← hsz]; exact k1, k3⟩, k4⟩
    obtain ⟨f, hf⟩ := Go.Deep.choose_lt each
    refine ⟨(List.range l.length).map f, by simp, fun _ => ⟨g, off, e, hg, trivial, fun i hi => ?_⟩, fun x hx => ?_⟩
    · obtain ⟨⟨cs, k1, k2⟩, _⟩ := hf i (by simpa using hi)
      exact ⟨cs, k1, by simpa using k2⟩
    · obtain ⟨i, hi, rfl⟩ := List.mem_map.1 hx
      exact (hf i (List.mem_range.1 hi)).2
  · exact ⟨[], by simp; omega, Lst.nil _ _ _, fun x hx => by simp at hx⟩
theorem name_of {w : World} {l : List Dt} (hs : ∀ x ∈ l, IsSh atS x) (hf : fitDts l) {A : Option Addr} {len : Nat} (he : l.length = len) (hr : 0 < len → ∃ g off, A = some ⟨g, off, none⟩ ∧ g < w.heap.size ∧ LiesRow (fun _ => True) w g atS.sz off l) :
    ∃ xs : List At, xs.length = len ∧ Lst atE (fun _ => True) w A xs ∧ ∀ a ∈ xs, a.text.size ≤ 140737488351232 := by
  subst he
  exact list_of (P := fun a : At => a.text.size ≤ 140737488351232) (fun d cs h1 h2 h3 => at_of h1 h2 h3) rfl hs hf hr
theorem st_of {w : World} {d : Dt} {cs : List Value} (hs : IsSh .str d) (h : Lies (fun _ => True) w d cs) (hf : fitDt d) : ∃ a : ByteArray, stE.hold (fun _ => True) w a cs ∧ a.size ≤ 140737488351232 := by
  unfold IsSh at hs
  obtain ⟨s, rfl⟩ := hs
  unfold Lies at h
  unfold fitDt at hf
  exact ⟨s, h, hf⟩
theorem princ_of {w : World} {l : List Dt} {c0 c1 : Value} (hs : IsShs [.str, .row .str] l) (h : LiesAll (fun _ => True) w l [c0, c1]) (hf : fitDts l) : ∃ p : Pr, PrC (fun _ => True) w p c0 c1 ∧ p.realm.size ≤ 140737488351232 ∧ ∀ a ∈ p.names, a.size ≤ 140737488351232 := by
  match l, hs with
  | [d0, d1], hs =>
    unfold IsShs at hs
    obtain ⟨s0, hs⟩ := hs
    unfold IsShs at hs
    obtain ⟨s1, _⟩ := hs
    unfold IsSh at s0 s1
    obtain ⟨t, rfl⟩ := s0
    obtain ⟨l, rfl, hl⟩ := s1
    unfold LiesAll at h
    obtain ⟨a, b, e0, h0, h⟩ := h
    unfold LiesAll at h
    obtain ⟨a1, b1, e1, h1, h⟩ := h
    unfold LiesAll at h
    subst h
    unfold Lies at h0 h1
    obtain ⟨rfl, k4⟩ := h0
    obtain ⟨A, c, rfl, k1, k2, k3⟩ := h1
    subst e1
    simp only [List.cons_append, List.nil_append, List.cons.injEq, and_true] at e0
    obtain ⟨rfl, rfl⟩ := e0
    unfold fitDts at hf
    obtain ⟨f0, hf⟩ := hf
    unfold fitDts at hf
    have f1 := hf.1
    unfold fitDt at f0 f1
    obtain ⟨xs, hx1, hx2, hx3⟩ := list_of (E := stE) (s := .str) (P := fun a => a.size ≤ 140737488351232) (fun d cs h1 h2 h3 => st_of h1 h2 h3) rfl hl f1 (A := A) (fun hn => by obtain ⟨g, off, e, hg, _, hr⟩ := k3 hn; exact ⟨g, off, e, hg, hr⟩)
    exact ⟨⟨t, xs⟩, ⟨A, c, rfl, by rw [hx1], by rw [hx1]; exact k1, k2, hx2, k4⟩, f0, hx3⟩
  | [], hs => unfold IsShs at hs; exact hs.elim
  | [_], hs => unfold IsShs at hs; obtain ⟨_, hs⟩ := hs; unfold IsShs at hs; exact hs.elim
  | _ :: _ :: _ :: _, hs => unfold IsShs at hs; obtain ⟨_, hs⟩ := hs; unfold IsShs at hs; obtain ⟨_, hs⟩ := hs; unfold IsShs at hs; exact hs.elim
end Go.Proofs.YthcancakkkjpaaaGreatDoor.nmc
