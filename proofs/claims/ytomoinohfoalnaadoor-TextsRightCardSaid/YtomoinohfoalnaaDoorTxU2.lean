/- The program's Right for UTF-8; which texts are of several tags: plain facts. -/
import Derived.Test.YtomoinohfoalnaaDoorTxV
import Derived.Test.YtomoinohfoalnaaDoorTxY
import Derived.Lib.ValidLaws
import Derived.Lib.DecodeN
namespace Go.Proofs.YtomoinohfoalnaaDoor.txm
open Go.Proofs.YtomoinohfoalnaaDoor.tlvc
theorem okR19 (r : Int) : okR 19 r = decide (PrintR r) := rfl
theorem okR22 (r : Int) : okR 22 r = decide (AsciiR r) := rfl
theorem okR27 (r : Int) : okR 27 r = decide (GenR r) := rfl
theorem print_gen {r : Int} (h : PrintR r) : GenR r := by unfold PrintR at h; unfold GenR; omega
theorem gen_ascii {r : Int} (h : GenR r) : AsciiR r := by unfold GenR at h; unfold AsciiR; omega
theorem all_mono {p q : Int → Bool} {l : List Int} (h : ∀ r, p r = true → q r = true) (ha : l.all p = true) : l.all q = true := by
  rw [List.all_eq_true] at ha ⊢
  exact fun x hx => h x (ha x hx)
/-- Runes below 128 are bytes below 128. -/
theorem runesF_low (s : ByteArray) : ∀ (n p : Nat), s.size ≤ p + n → (runesF s n p).all (okR 22) = true → ∀ j, p ≤ j → (hj : j < s.size) → (s[j]'hj).toNat < 128
  | 0, p, h, _, j, h1, h2 => by omega
  | n + 1, p, h, ha, j, h1, h2 => by
    have hp : p < s.size := by omega
    simp only [runesF, hp, if_true, List.all_cons, Bool.and_eq_true] at ha
    have hlow : (s[p]'hp).toNat < 128 := by
      rcases Nat.lt_or_ge (s[p]'hp).toNat 128 with hl | hg
      · exact hl
      · have := (decode_high s p hp hg).1
        have h3 := ha.1
        rw [okR22] at h3
        have h4 := of_decide_eq_true h3
        unfold AsciiR at h4
        omega
    have hd := decode_ascii s p hp hlow
    rw [hd] at ha
    by_cases e : j = p
    · subst e; exact hlow
    · exact runesF_low s n (p + 1) (by omega) ha.2 j (by omega) h2
theorem valid_low {s : ByteArray} (h : (runes s).all (okR 22) = true) : Lib.validD s.data.toList = true := by
  have hb : ∀ b ∈ s.data.toList.take s.data.toList.length, b.toNat < 128 := by
    intro b hb
    rw [List.take_length] at hb
    obtain ⟨j, hj, rfl⟩ := List.getElem_of_mem hb
    have hj' : j < s.size := by simpa using hj
    have := runesF_low s s.size 0 (by omega) h j (Nat.zero_le _) hj'
    rw [Array.getElem_toList]
    exact this
  rw [Lib.validD_ascii _ _ hb, List.drop_length]
  rfl
end Go.Proofs.YtomoinohfoalnaaDoor.txm
namespace Go.Proofs.YtomoinohfoalnaaDoor.txc
open Go.RowKit Go.Proofs.YtomoinohfoalnaaDoor.txm Go.Proofs.YtomoinohfoalnaaDoor.tlvc
set_option linter.unusedVariables false
theorem Tabs.below {w w' : World} (h : Tabs w) (hb : Below w.heap.size w w') : Tabs w' := Utf8Tabs_below h hb
theorem right_ways {xs : List Int} : (rightB 19 xs = true → rightB 27 xs = true ∧ rightB 22 xs = true) ∧ (rightB 27 xs = true → rightB 22 xs = true) ∧ (rightB 22 xs = true → Lib.validD (strOfNums xs).data.toList = true) := by
  have e19 : rightB 19 xs = (runes (strOfNums xs)).all (okR 19) := rfl
  have e22 : rightB 22 xs = (runes (strOfNums xs)).all (okR 22) := rfl
  have e27 : rightB 27 xs = (runes (strOfNums xs)).all (okR 27) := rfl
  rw [e19, e22, e27]
  have k1 : ∀ r, okR 19 r = true → okR 27 r = true := fun r h => by rw [okR19] at h; rw [okR27]; exact decide_eq_true (print_gen (of_decide_eq_true h))
  have k2 : ∀ r, okR 27 r = true → okR 22 r = true := fun r h => by rw [okR27] at h; rw [okR22]; exact decide_eq_true (gen_ascii (of_decide_eq_true h))
  exact ⟨fun h => ⟨all_mono k1 h, all_mono k2 (all_mono k1 h)⟩, all_mono k2, valid_low⟩

def utfB (xs : List Int) : Bool := Lib.validD (strOfNums xs).data.toList
set_option maxRecDepth 100000 in
theorem right_utf (A : Option Addr) (n c : Nat) (xs : List Int) (w : World) (hx : Bys w A n xs) (hn : n ≤ maxLen) (hT : Tabs w) :
    Calls Tryd.prog 12 #[.int .u8 12, .slice A n c] w fun e w' => e = .returned (.bool (utfB xs)) ∧ Below w.heap.size w w' := by
  have hcv := str_now hx c
  have hsz : (strOfNums xs).size ≤ 9223372036854775807 := by rw [strOfNums_size, hx.1]; exact hn
  have hval : Calls Tryd.prog 24 #[.string (strOfNums xs)] w fun e w' => e = .returned (.bool (utfB xs)) ∧ Below w.heap.size w w' := Any.utf8_ValidString Tryd.lays196 (strOfNums xs) w hsz hT
  obtain ⟨s, hs⟩ : ∃ s, strOfNums xs = s := ⟨_, rfl⟩
  rw [hs] at hcv hval
  obtain ⟨b, hb⟩ : ∃ b, utfB xs = b := ⟨_, rfl⟩
  rw [hb] at hval ⊢
  have HV := Lib.hid hval
  clear hs hb hval
  go_enter Tryd.func12, Tryd.ntmps12
  go_wp2_with fail
  refine HV.out.mono ?_
  rintro e w' ⟨rfl, hb⟩
  go_wp2
  go_ret
  exact ⟨rfl, hb⟩
end Go.Proofs.YtomoinohfoalnaaDoor.txc
