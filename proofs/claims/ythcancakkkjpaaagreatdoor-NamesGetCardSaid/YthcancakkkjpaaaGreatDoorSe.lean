/- The document's Kids, plain and OidOf. -/
import Derived.Test.YthcancakkkjpaaaGreatDoorRi
import Derived.Test.YthcancakkkjpaaaGreatDoorId
import Derived.Lib.QuietBelow
import Derived.BigQuiet
namespace Go.Proofs.YthcancakkkjpaaaGreatDoor.nmc
open Go.RowKit Go.Proofs.YthcancakkkjpaaaGreatDoor.tlvc Go.Proofs.YthcancakkkjpaaaGreatDoor.tlvd Go.Proofs.YthcancakkkjpaaaGreatDoor.ndc Go.Proofs.YthcancakkkjpaaaGreatDoor.txc Go.Proofs.YthcancakkkjpaaaGreatDoor.txm Go.Proofs.YthcancakkkjpaaaGreatDoor.intc Go.Proofs.YthcancakkkjpaaaGreatDoor.intm
set_option linter.unusedVariables false
set_option linter.unusedSimpArgs false
def kidsB (n : Nd) (many : Int) : Bool := decide (n.tag = 48) && (decide (n.body.length = 0) && (decide (many < 0) || decide ((n.kids.length : Int) = many)))
def plainB (n : Nd) (t : Int) : Bool := decide (n.tag = t) && decide (n.kids.length = 0)
def oidOK (n : Nd) : Bool := decide ((oidF n.body).2 = 0) && plainB n 6
theorem box3_ {W0 W : World} (h : Below W0.heap.size W0 W) {g : Nat} {a b c : Value} {T : TypeId} {fr : Nat × Nat} (hq : W0.heap[g]? = some (.cells #[a, b, c] T fr)) : W.cell? ⟨g, 0, none⟩ = some a ∧ W.cell? ⟨g, 1, none⟩ = some b ∧ W.cell? ⟨g, 2, none⟩ = some c := by
  have hq := (h.block g (Array.getElem?_eq_some_iff.1 hq).1).trans hq
  exact ⟨(Lib.cell_of_heap hq _).trans rfl, (Lib.cell_of_heap hq _).trans rfl, (Lib.cell_of_heap hq _).trans rfl⟩
set_option maxRecDepth 100000 in
set_option maxHeartbeats 4000000 in
theorem kids_any (B : Nat → Prop) (n : Nd) (many : Int) (h : many = -1 ∨ many = 2) (c0 c1 c2 : Value) (w : World) (hn : NdC B w n c0 c1 c2) :
    Calls Tryz.prog 21 #[.agg #[c0, c1, c2], .int .u8 48, .int .i64 many] w fun e w' => e = .returned (.tuple #[if kidsB n many = true then c2 else .slice none 0 0, .bool (kidsB n many)]) ∧ Below w.heap.size w w' := by
  obtain ⟨t, b, ks⟩ := n
  obtain ⟨rfl, ht, ⟨A, la, ca, rfl, hA1, hA2, hA3, _⟩, K, ck, rfl, hK1, hK2, hK3⟩ := NdC.kidsL hn
  have hla : b.length = la := hA3.1
  obtain ⟨lk, hlk⟩ : ∃ x, ks.length = x := ⟨_, rfl⟩
  have hk : kidsB (.mk t b ks) many = (decide (t = 48) && (decide (la = 0) && (decide (many < 0) || decide ((lk : Int) = many)))) := by rw [← hla, ← hlk]; rfl
  rw [hk]
  (try rw [hlk])
  obtain ⟨W0, hW0⟩ : ∃ x, w.alloc (.cells #[.int .u8 t, .slice A la ca, .slice K lk ck] 25) = x := ⟨_, rfl⟩
  have hb0 : Below w.heap.size w W0 := by rw [← hW0]; exact below_new _ _
  have q0 : W0.heap[w.heap.size]? = some (.cells #[.int .u8 t, .slice A la ca, .slice K lk ck] 25) := by rw [← hW0]; exact heap_new_ _ _
  obtain ⟨x0, x1, x2⟩ := box3_ (Below.refl _ W0) q0
  have HB := Lib.hid hb0
  clear hb0 q0 hk hlk hla hA1 hA2 hA3 hK1 hK2 hK3 ht hn
  by_cases h48 : t = 48
  · subst h48
    by_cases h0 : la = 0
    · subst h0
      rcases h with rfl | rfl
      · skip
        go_enter Tryz.func21, Tryz.ntmps21
        go_wp2
        go_ret2
        exact ⟨by first | rfl | simp [*], HB.out⟩
      · by_cases h2 : lk = 2
        · subst h2
          go_enter Tryz.func21, Tryz.ntmps21
          go_wp2
          go_ret2
          exact ⟨by first | rfl | simp [*], HB.out⟩
        · have h2z : ((lk : Int) == 2) = false := by rw [beq_eq_false_iff_ne]; omega
          have h2y : ¬ ((lk : Int) = 2) := by omega
          rw [decide_eq_false h2y]
          clear h2y h2
          go_enter Tryz.func21, Tryz.ntmps21
          go_wp2
          go_ret2
          exact ⟨by first | rfl | simp [*], HB.out⟩
    · have h0z : (0 : Int) < (la : Int) := by omega
      rw [decide_eq_false h0]
      go_enter Tryz.func21, Tryz.ntmps21
      go_wp2
      go_ret2
      exact ⟨by first | rfl | simp [*], HB.out⟩
  · have h48z : (t == 48) = false := by rw [beq_eq_false_iff_ne]; exact h48
    rw [decide_eq_false h48]
    go_enter Tryz.func21, Tryz.ntmps21
    go_wp2
    go_ret2
    exact ⟨by first | rfl | simp [*], HB.out⟩
set_option maxRecDepth 100000 in
set_option maxHeartbeats 4000000 in
theorem plain_any (B : Nat → Prop) (n : Nd) (t2 : Int) (c0 c1 c2 : Value) (w : World) (hn : NdC B w n c0 c1 c2) :
    Calls Tryz.prog 45 #[.agg #[c0, c1, c2], .int .u8 t2] w fun e w' => e = .returned (.bool (plainB n t2)) ∧ Below w.heap.size w w' := by
  obtain ⟨t, b, ks⟩ := n
  obtain ⟨rfl, ht, ⟨A, la, ca, rfl, hA1, hA2, hA3, _⟩, K, ck, rfl, hK1, hK2, hK3⟩ := NdC.kidsL hn
  have hla : b.length = la := hA3.1
  obtain ⟨lk, hlk⟩ : ∃ x, ks.length = x := ⟨_, rfl⟩
  have hk : plainB (.mk t b ks) t2 = (decide (t = t2) && decide (lk = 0)) := by rw [← hlk]; rfl
  rw [hk]
  (try rw [hlk])
  obtain ⟨W0, hW0⟩ : ∃ x, w.alloc (.cells #[.int .u8 t, .slice A la ca, .slice K lk ck] 25) = x := ⟨_, rfl⟩
  have hb0 : Below w.heap.size w W0 := by rw [← hW0]; exact below_new _ _
  have q0 : W0.heap[w.heap.size]? = some (.cells #[.int .u8 t, .slice A la ca, .slice K lk ck] 25) := by rw [← hW0]; exact heap_new_ _ _
  obtain ⟨x0, x1, x2⟩ := box3_ (Below.refl _ W0) q0
  have HB := Lib.hid hb0
  clear hb0 q0 hk hlk hla hA1 hA2 hA3 hK1 hK2 hK3 ht hn
  by_cases h48 : t = t2
  · subst h48
    have hz : (t == t) = true := by rw [beq_iff_eq]
    by_cases h0 : lk = 0
    · subst h0
      go_enter Tryz.func45, Tryz.ntmps45
      go_wp2
      go_ret
      exact ⟨by first | rfl | simp [*], HB.out⟩
    · have h0z : ((lk : Int) == 0) = false := by rw [beq_eq_false_iff_ne]; omega
      rw [decide_eq_false h0]
      go_enter Tryz.func45, Tryz.ntmps45
      go_wp2
      go_ret
      exact ⟨by first | rfl | simp [*], HB.out⟩
  · have h48z : (t == t2) = false := by rw [beq_eq_false_iff_ne]; exact h48
    rw [decide_eq_false h48]
    go_enter Tryz.func45, Tryz.ntmps45
    go_wp2
    go_ret
    exact ⟨by first | rfl | simp [*], HB.out⟩
/-- What OidOf tells. -/
def OPost (w : World) (n : Nd) (e : Ending) (w' : World) : Prop :=
  Below w.heap.size w w' ∧ ∃ A c, e = .returned (.tuple #[.slice A (oidF n.body).1.length c, .bool (oidOK n)]) ∧ IHere w.heap.size A c (oidF n.body).1 w'
set_option maxRecDepth 100000 in
set_option maxHeartbeats 4000000 in
theorem oidOf_any (B : Nat → Prop) (n : Nd) (c0 c1 c2 : Value) (w : World) (hn : NdC B w n c0 c1 c2) :
    Calls Tryz.prog 22 #[.agg #[c0, c1, c2]] w (OPost w n) := by
  obtain ⟨t, A, la, ca, K, lk, ck, rfl, rfl, rfl⟩ := hn.shape
  obtain ⟨W0, hW0⟩ : ∃ x, w.alloc (.cells #[.int .u8 t, .slice A la ca, .slice K lk ck] 25) = x := ⟨_, rfl⟩
  have hb0 : Below w.heap.size w W0 := by rw [← hW0]; exact below_new _ _
  have q0 : W0.heap[w.heap.size]? = some (.cells #[.int .u8 t, .slice A la ca, .slice K lk ck] 25) := by rw [← hW0]; exact heap_new_ _ _
  obtain ⟨x0, x1, x2⟩ := box3_ (Below.refl _ W0) q0
  have hby : la ≤ ca ∧ ca ≤ maxLen ∧ Bys w A la n.body := by
    obtain ⟨t', b, ks⟩ := n
    obtain ⟨_, _, ⟨A', la', ca', e, h1, h2, h3, _⟩, _⟩ := NdC.kidsL hn
    simp only [Value.slice.injEq] at e
    obtain ⟨rfl, rfl, rfl⟩ := e
    exact ⟨h1, h2, h3⟩
  have HO := Lib.hid (refOID_any A la ca n.body W0 (hby.2.2.below hb0) hby.1 hby.2.1)
  have HX := Lib.hid (fun W (hW : Below W0.heap.size W0 W) => box3_ hW q0)
  have HP := Lib.hid (fun W (hW : Below W0.heap.size W0 W) => plain_any _ n 6 _ _ _ W (NdC.below (below_then hb0 hW (Nat.le_refl _)) _ _ _ _ hn))
  have HB := Lib.hid hb0
  obtain ⟨ys, hys⟩ : ∃ x, (oidF n.body).1 = x := ⟨_, rfl⟩
  obtain ⟨er, her⟩ : ∃ x, (oidF n.body).2 = x := ⟨_, rfl⟩
  obtain ⟨pb, hpb⟩ : ∃ x, plainB n 6 = x := ⟨_, rfl⟩
  have hok : oidOK n = (decide (er = 0) && pb) := by rw [← her, ← hpb]; rfl
  unfold OPost
  obtain ⟨ok, hok2⟩ : ∃ x, (decide (er = 0) && pb) = x := ⟨_, rfl⟩
  have HOK := Lib.hid hok2
  rw [hok, hok2, hys]
  clear hok2
  rw [hys, her] at HO
  rw [hpb] at HP
  clear hok hys her hpb hby q0 hb0 hn
  go_enter Tryz.func22, Tryz.ntmps22
  go_wp2_with fail
  refine HO.out.mono ?_
  rintro e w1 ⟨A2, c2, rfl, hh, hb1⟩
  have HC := Lib.hid (HP.out w1 hb1)
  have HB1 := Lib.hid (below_then HB.out hb1 (Nat.le_refl _))
  have HW := Lib.hid hb1.size
  have HH := Lib.hid hh
  have HZ := Lib.hid (below_then HB.out (Below.refl _ W0) (Nat.le_refl _)).size
  clear x0 x1 x2
  obtain ⟨x0, x1, x2⟩ := HX.out w1 hb1
  clear hb1 hh HO HP
  by_cases h0 : er = 0
  · subst h0
    obtain rfl : pb = ok := by rw [← HOK.out]; simp
    go_wp2_with fail
    refine HC.out.mono ?_
    rintro e w2 ⟨rfl, hb2⟩
    have HB2 := Lib.hid (And.intro (below_then HB1.out hb2 (Nat.le_refl _)) (show IHere w.heap.size A2 c2 ys w2 from ⟨HH.out.1.below hb2, HH.out.2.1, HH.out.2.2.1, fun b off e => ⟨Nat.le_trans HZ.out (HH.out.2.2.2 b off e).1, (HH.out.2.2.2 b off e).2⟩⟩))
    clear hb2 HC HB1 HH x0 x1 x2
    go_wp2
    go_ret2
    exact ⟨HB2.out.1, _, _, by first | rfl | simp, HB2.out.2⟩
  · have hz : (er == 0) = false := by rw [beq_eq_false_iff_ne]; exact h0
    obtain rfl : false = ok := by rw [← HOK.out, decide_eq_false h0]; rfl
    have HB2 := Lib.hid (And.intro HB1.out (show IHere w.heap.size A2 c2 ys w1 from ⟨HH.out.1, HH.out.2.1, HH.out.2.2.1, fun b off e => ⟨Nat.le_trans HZ.out (HH.out.2.2.2 b off e).1, (HH.out.2.2.2 b off e).2⟩⟩))
    clear h0 HC HB1 HH
    go_wp2
    go_ret2
    exact ⟨HB2.out.1, _, _, by first | rfl | simp, HB2.out.2⟩
end Go.Proofs.YthcancakkkjpaaaGreatDoor.nmc
