/- Terms: the tree, and how memory holds it. Nothing here names the program. -/
import Derived.Test.YtlnclgpbobaedaaDoorKitB
import Derived.Test.YtlnclgpbobaedaaDoorTlvKit
namespace Go.Proofs.YtlnclgpbobaedaaDoor.tmc
open Go.RowKit Go.Proofs.YtlnclgpbobaedaaDoor.tlvc
set_option linter.unusedVariables false
/-- A term: what it is, its number, its data, its kids. -/
inductive Tm where
  | mk (op num : Int) (data : List Int) (kids : List Tm)
def Tm.op : Tm → Int | .mk o _ _ _ => o
def Tm.num : Tm → Int | .mk _ m _ _ => m
def Tm.data : Tm → List Int | .mk _ _ d _ => d
def Tm.kids : Tm → List Tm | .mk _ _ _ k => k
instance : Inhabited Tm := ⟨.mk 0 0 [] []⟩
def I64 (n : Int) : Prop := -9223372036854775808 ≤ n ∧ n ≤ 9223372036854775807
mutual
/-- In the world w these four cells hold the term; what they lead to lies in blocks of B. -/
def TmC (B : Nat → Prop) (w : World) : Tm → Value → Value → Value → Value → Prop
  | .mk o m d ks, c0, c1, c2, c3 => c0 = .int .i64 o ∧ I64 o ∧ c1 = .int .i64 m ∧ I64 m ∧ (∃ A la ca, c2 = .slice A la ca ∧ la ≤ ca ∧ ca ≤ maxLen ∧ Bys w A la d ∧ (0 < la → ∀ g off sp, A = some ⟨g, off, sp⟩ → B g)) ∧
      (∃ K ck, c3 = .slice K ks.length ck ∧ ks.length ≤ ck ∧ ck ≤ maxLen ∧ (0 < ks.length → ∃ g off, K = some ⟨g, off, none⟩ ∧ g < w.heap.size ∧ B g ∧ KidsC B w g off ks))
/-- From this cell on the terms lie, one behind the other, four cells each. -/
def KidsC (B : Nat → Prop) (w : World) (g : Nat) : Nat → List Tm → Prop
  | _, [] => True
  | off, k :: ks => (∃ c0 c1 c2 c3, w.cell? ⟨g, off, none⟩ = some c0 ∧ w.cell? ⟨g, off + 1, none⟩ = some c1 ∧ w.cell? ⟨g, off + 2, none⟩ = some c2 ∧ w.cell? ⟨g, off + 3, none⟩ = some c3 ∧ TmC B w k c0 c1 c2 c3) ∧ KidsC B w g (off + 4) ks
end
/-- The cells of blocks of B are kept. -/
def Stays (B : Nat → Prop) (w w' : World) : Prop := w.heap.size ≤ w'.heap.size ∧ ∀ p : Addr, B p.block → p.block < w.heap.size → w'.cell? p = w.cell? p
theorem bys_stays {B : Nat → Prop} {w w' : World} (hs : Stays B w w') {A : Option Addr} {n : Nat} {xs : List Int} (h : Bys w A n xs) (hB : 0 < n → ∀ g off sp, A = some ⟨g, off, sp⟩ → B g) : Bys w' A n xs :=
  ⟨h.1, h.2.1, fun hn => by
    obtain ⟨b, off, e, hb, hc⟩ := h.2.2 hn
    exact ⟨b, off, e, Nat.lt_of_lt_of_le hb hs.1, fun j hj => (hs.2 ⟨b, off + j, none⟩ (hB hn b off none e) hb).trans (hc j hj)⟩⟩
mutual
theorem TmC.stays {B : Nat → Prop} {w w' : World} (hs : Stays B w w') : ∀ (n : Tm) (c0 c1 c2 c3 : Value), TmC B w n c0 c1 c2 c3 → TmC B w' n c0 c1 c2 c3
  | .mk o m d ks, c0, c1, c2, c3, h => by
    unfold TmC at h ⊢
    obtain ⟨e0, ho, e1, hm, ⟨A, la, ca, e2, h1, h2, h3, hB⟩, K, ck, e3, h4, h5, h6⟩ := h
    refine ⟨e0, ho, e1, hm, ⟨A, la, ca, e2, h1, h2, bys_stays hs h3 hB, hB⟩, K, ck, e3, h4, h5, fun hk => ?_⟩
    obtain ⟨g, off, eK, hg, hBg, hks⟩ := h6 hk
    exact ⟨g, off, eK, Nat.lt_of_lt_of_le hg hs.1, hBg, KidsC.stays hs hg hBg ks off hks⟩
theorem KidsC.stays {B : Nat → Prop} {w w' : World} (hs : Stays B w w') {g : Nat} (hg : g < w.heap.size) (hB : B g) : ∀ (ks : List Tm) (off : Nat), KidsC B w g off ks → KidsC B w' g off ks
  | [], _, _ => by unfold KidsC; trivial
  | k :: ks, off, h => by
    unfold KidsC at h ⊢
    obtain ⟨⟨c0, c1, c2, c3, h0, h1, h2, h3, hk⟩, hr⟩ := h
    exact ⟨⟨c0, c1, c2, c3, (hs.2 ⟨g, off, none⟩ hB hg).trans h0, (hs.2 ⟨g, off + 1, none⟩ hB hg).trans h1, (hs.2 ⟨g, off + 2, none⟩ hB hg).trans h2, (hs.2 ⟨g, off + 3, none⟩ hB hg).trans h3, TmC.stays hs k c0 c1 c2 c3 hk⟩, KidsC.stays hs hg hB ks (off + 4) hr⟩
end
theorem stays_below {w w' : World} (hb : Below w.heap.size w w') (B : Nat → Prop) : Stays B w w' := ⟨hb.size, fun p _ hp => hb.cell hp⟩
theorem TmC.below {B : Nat → Prop} {w w' : World} (hb : Below w.heap.size w w') (n : Tm) (c0 c1 c2 c3 : Value) (h : TmC B w n c0 c1 c2 c3) : TmC B w' n c0 c1 c2 c3 := TmC.stays (stays_below hb B) n c0 c1 c2 c3 h
theorem KidsC.below {B : Nat → Prop} {w w' : World} (hb : Below w.heap.size w w') {g : Nat} (hg : g < w.heap.size) (hB : B g) (ks : List Tm) (off : Nat) (h : KidsC B w g off ks) : KidsC B w' g off ks := KidsC.stays (stays_below hb B) hg hB ks off h
theorem KidsC.at {B : Nat → Prop} {w : World} {g : Nat} : ∀ {ks : List Tm} {off : Nat}, KidsC B w g off ks → ∀ (i : Nat) (hi : i < ks.length), ∃ c0 c1 c2 c3, w.cell? ⟨g, off + i * 4, none⟩ = some c0 ∧ w.cell? ⟨g, off + i * 4 + 1, none⟩ = some c1 ∧ w.cell? ⟨g, off + i * 4 + 2, none⟩ = some c2 ∧ w.cell? ⟨g, off + i * 4 + 3, none⟩ = some c3 ∧ TmC B w ks[i] c0 c1 c2 c3
  | [], _, _, i, hi => absurd hi (by simp)
  | k :: ks, off, h, 0, _ => by unfold KidsC at h; rw [Nat.zero_mul, Nat.add_zero]; exact h.1
  | k :: ks, off, h, i + 1, hi => by
    unfold KidsC at h
    have := KidsC.at h.2 i (by simpa using hi)
    rw [show off + 4 + i * 4 = off + (i + 1) * 4 by omega] at this
    simpa using this
theorem KidsC.of {B : Nat → Prop} {w : World} {g : Nat} : ∀ {ks : List Tm} {off : Nat}, (∀ (i : Nat) (hi : i < ks.length), ∃ c0 c1 c2 c3, w.cell? ⟨g, off + i * 4, none⟩ = some c0 ∧ w.cell? ⟨g, off + i * 4 + 1, none⟩ = some c1 ∧ w.cell? ⟨g, off + i * 4 + 2, none⟩ = some c2 ∧ w.cell? ⟨g, off + i * 4 + 3, none⟩ = some c3 ∧ TmC B w ks[i] c0 c1 c2 c3) → KidsC B w g off ks
  | [], _, _ => by unfold KidsC; trivial
  | k :: ks, off, h => by
    unfold KidsC
    refine ⟨by have := h 0 (by simp); rw [Nat.zero_mul, Nat.add_zero] at this; exact this, KidsC.of fun i hi => ?_⟩
    have := h (i + 1) (by simpa using hi)
    rw [show off + (i + 1) * 4 = off + 4 + i * 4 by omega] at this
    simpa using this
/-- A term as a value. -/
def TmV (B : Nat → Prop) (w : World) (n : Tm) (v : Value) : Prop := ∃ c0 c1 c2 c3, v = .agg #[c0, c1, c2, c3] ∧ TmC B w n c0 c1 c2 c3
theorem TmV.stays {B : Nat → Prop} {w w' : World} {n : Tm} {v : Value} (h : TmV B w n v) (hs : Stays B w w') : TmV B w' n v := by
  obtain ⟨c0, c1, c2, c3, e, hc⟩ := h
  exact ⟨c0, c1, c2, c3, e, TmC.stays hs n c0 c1 c2 c3 hc⟩
theorem TmV.below {B : Nat → Prop} {w w' : World} {n : Tm} {v : Value} (h : TmV B w n v) (hb : Below w.heap.size w w') : TmV B w' n v := h.stays (stays_below hb B)
mutual
theorem TmC.mono {B B' : Nat → Prop} {w : World} (hB : ∀ g, B g → B' g) : ∀ (n : Tm) (c0 c1 c2 c3 : Value), TmC B w n c0 c1 c2 c3 → TmC B' w n c0 c1 c2 c3
  | .mk o m d ks, c0, c1, c2, c3, h => by
    unfold TmC at h ⊢
    obtain ⟨e0, ho, e1, hm, ⟨A, la, ca, e2, h1, h2, h3, h4⟩, K, ck, e3, h5, h6, h7⟩ := h
    refine ⟨e0, ho, e1, hm, ⟨A, la, ca, e2, h1, h2, h3, fun hl g off sp e => hB _ (h4 hl g off sp e)⟩, K, ck, e3, h5, h6, fun hk => ?_⟩
    obtain ⟨g, off, eK, hg, hBg, hks⟩ := h7 hk
    exact ⟨g, off, eK, hg, hB _ hBg, KidsC.mono hB ks off hks⟩
theorem KidsC.mono {B B' : Nat → Prop} {w : World} (hB : ∀ g, B g → B' g) {g : Nat} : ∀ (ks : List Tm) (off : Nat), KidsC B w g off ks → KidsC B' w g off ks
  | [], _, _ => by unfold KidsC; trivial
  | k :: ks, off, h => by
    unfold KidsC at h ⊢
    obtain ⟨⟨c0, c1, c2, c3, h0, h1, h2, h3, hk⟩, hr⟩ := h
    exact ⟨⟨c0, c1, c2, c3, h0, h1, h2, h3, TmC.mono hB k c0 c1 c2 c3 hk⟩, KidsC.mono hB ks (off + 4) hr⟩
end
theorem TmV.mono {B B' : Nat → Prop} {w : World} {n : Tm} {v : Value} (h : TmV B w n v) (hB : ∀ g, B g → B' g) : TmV B' w n v := by
  obtain ⟨c0, c1, c2, c3, e, hc⟩ := h
  exact ⟨c0, c1, c2, c3, e, TmC.mono hB n c0 c1 c2 c3 hc⟩
mutual
/-- What lies in blocks of the world itself: so a bound from above may be had. -/
theorem TmC.bound {B : Nat → Prop} {w : World} : ∀ (n : Tm) (c0 c1 c2 c3 : Value), TmC B w n c0 c1 c2 c3 → TmC (fun g => B g ∧ g < w.heap.size) w n c0 c1 c2 c3
  | .mk o m d ks, c0, c1, c2, c3, h => by
    unfold TmC at h ⊢
    obtain ⟨e0, ho, e1, hm, ⟨A, la, ca, e2, h1, h2, h3, h4⟩, K, ck, e3, h5, h6, h7⟩ := h
    refine ⟨e0, ho, e1, hm, ⟨A, la, ca, e2, h1, h2, h3, fun hl g off sp e => ⟨h4 hl g off sp e, ?_⟩⟩, K, ck, e3, h5, h6, fun hk => ?_⟩
    · obtain ⟨b', off', e', hb', _⟩ := h3.2.2 hl
      rw [e'] at e; cases e; exact hb'
    · obtain ⟨g, off, eK, hg, hBg, hks⟩ := h7 hk
      exact ⟨g, off, eK, hg, ⟨hBg, hg⟩, KidsC.bound ks off hks⟩
theorem KidsC.bound {B : Nat → Prop} {w : World} {g : Nat} : ∀ (ks : List Tm) (off : Nat), KidsC B w g off ks → KidsC (fun g => B g ∧ g < w.heap.size) w g off ks
  | [], _, _ => by unfold KidsC; trivial
  | k :: ks, off, h => by
    unfold KidsC at h ⊢
    obtain ⟨⟨c0, c1, c2, c3, h0, h1, h2, h3, hk⟩, hr⟩ := h
    exact ⟨⟨c0, c1, c2, c3, h0, h1, h2, h3, TmC.bound k c0 c1 c2 c3 hk⟩, KidsC.bound ks (off + 4) hr⟩
end
theorem TmC.below2 {B S : Nat → Prop} {w w' : World} (hs : Stays B w w') {n : Tm} {c0 c1 c2 c3 : Value} (h : TmC B w n c0 c1 c2 c3) (hS : ∀ g, B g → g < w.heap.size → S g) : TmC S w' n c0 c1 c2 c3 :=
  TmC.mono (fun g h => hS g h.1 h.2) n c0 c1 c2 c3 (TmC.stays ⟨hs.1, fun p hp hl => hs.2 p hp.1 hl⟩ n c0 c1 c2 c3 (TmC.bound n c0 c1 c2 c3 h))
/-- The cells' first form. -/
theorem TmC.shape {B : Nat → Prop} {w : World} {n : Tm} {c0 c1 c2 c3 : Value} (h : TmC B w n c0 c1 c2 c3) : ∃ o m A la ca K lk ck, c0 = .int .i64 o ∧ c1 = .int .i64 m ∧ c2 = .slice A la ca ∧ c3 = .slice K lk ck := by
  obtain ⟨o, m, d, ks⟩ := n
  unfold TmC at h
  obtain ⟨e0, _, e1, _, ⟨A, la, ca, e2, _⟩, K, ck, e3, _⟩ := h
  exact ⟨o, m, A, la, ca, K, _, ck, e0, e1, e2, e3⟩
/-- A slice of terms. -/
def Tms (w : World) (A : Option Addr) (ks : List Tm) : Prop := 0 < ks.length → ∃ g off, A = some ⟨g, off, none⟩ ∧ g < w.heap.size ∧ KidsC (fun _ => True) w g off ks
/-! ### How many there are -/
mutual
def szT : Tm → Nat
  | .mk _ _ _ ks => szTs ks + 1
def szTs : List Tm → Nat
  | [] => 0
  | k :: ks => szT k + szTs ks
end
theorem szTs_mem : ∀ {ks : List Tm} {k : Tm}, k ∈ ks → szT k ≤ szTs ks
  | [], k, h => by simp at h
  | x :: ks, k, h => by
    unfold szTs
    rcases List.mem_cons.1 h with rfl | h
    · omega
    · have := szTs_mem h; omega
/-! ### How many parts, up to a bound -/
mutual
def partsF : Tm → Int → Int
  | .mk _ _ _ ks, most => partsL ks most 1
def partsL : List Tm → Int → Int → Int
  | [], _, k => k
  | n :: ns, most, k => if k ≤ most then partsL ns most (k + partsF n (most - k)) else k
end
theorem partsL_bd {most : Int} : ∀ (ks : List Tm) (k : Int), (∀ n ∈ ks, ∀ m, 0 ≤ m → 1 ≤ partsF n m ∧ partsF n m ≤ m + 1) → 1 ≤ k → k ≤ most + 1 → 1 ≤ partsL ks most k ∧ partsL ks most k ≤ most + 1
  | [], k, _, h1, h2 => by unfold partsL; exact ⟨h1, h2⟩
  | n :: ns, k, h, h1, h2 => by
    unfold partsL
    split
    · have hb := h n List.mem_cons_self (most - k) (by omega)
      exact partsL_bd ns _ (fun m hm => h m (List.mem_cons_of_mem _ hm)) (by omega) (by omega)
    · exact ⟨h1, h2⟩
theorem partsF_bd : ∀ (N : Nat) (n : Tm), szT n ≤ N → ∀ m, 0 ≤ m → 1 ≤ partsF n m ∧ partsF n m ≤ m + 1
  | 0, .mk _ _ _ ks, h, _, _ => by unfold szT at h; omega
  | N + 1, .mk _ _ _ ks, h, m, hm => by
    unfold szT at h
    unfold partsF
    exact partsL_bd ks 1 (fun k hk m' hm' => partsF_bd N k (by have := szTs_mem hk; omega) m' hm') (by omega) (by omega)
/-- Where the count comes to an end below its bound it is the true one. -/
theorem partsL_true {most : Int} : ∀ (ks : List Tm) (k : Int), (∀ n ∈ ks, ∀ m, 0 ≤ m → (partsF n m ≤ m → partsF n m = szT n) ∧ partsF n m ≤ m + 1 ∧ 1 ≤ partsF n m) → 1 ≤ k → k ≤ most + 1 → partsL ks most k ≤ most → partsL ks most k = k + szTs ks
  | [], k, _, _, _, _ => by unfold partsL szTs; simp
  | n :: ns, k, h, h1, h2, h3 => by
    unfold partsL at h3 ⊢
    unfold szTs
    split
    · rename_i hk
      rw [if_pos hk] at h3
      obtain ⟨a, b, c⟩ := h n List.mem_cons_self (most - k) (by omega)
      have hlt : k + partsF n (most - k) ≤ most := by
        rcases Int.lt_or_le most (k + partsF n (most - k)) with hgt | hle
        · have hle2 : k + partsF n (most - k) = most + 1 := by omega
          cases ns with
          | nil => unfold partsL at h3; omega
          | cons x xs => unfold partsL at h3; rw [if_neg (by omega)] at h3; omega
        · exact hle
      have e := a (by omega)
      rw [partsL_true ns _ (fun m hm => h m (List.mem_cons_of_mem _ hm)) (by omega) (by omega) h3, e]
      omega
    · rename_i hk
      rw [if_neg hk] at h3
      omega
theorem partsF_true : ∀ (N : Nat) (n : Tm), szT n ≤ N → ∀ m, 0 ≤ m → partsF n m ≤ m → partsF n m = szT n
  | 0, .mk _ _ _ ks, h, _, _, _ => by unfold szT at h; omega
  | N + 1, .mk _ _ _ ks, h, m, hm, hle => by
    unfold szT at h
    unfold partsF at hle ⊢
    unfold szT
    rw [partsL_true ks 1 (fun k hk m' hm' => ⟨fun hle' => partsF_true N k (by have := szTs_mem hk; omega) m' hm' hle', (partsF_bd N k (by have := szTs_mem hk; omega) m' hm').2, (partsF_bd N k (by have := szTs_mem hk; omega) m' hm').1⟩) (by omega) (by omega) hle]
    omega
end Go.Proofs.YtlnclgpbobaedaaDoor.tmc
