/- The document's own Prep, walked. -/
import Derived.Test.YtajiolcdjjkedaaDoorTxAB
import Derived.Test.YtajiolcdjjkedaaDoorTxK2
import Derived.Test.YtajiolcdjjkedaaDoorKitB
namespace Go.Proofs.YtajiolcdjjkedaaDoor.tlvc
open Go.RowKit Go.ChangeShapes
set_option linter.unusedVariables false
theorem Rns.upto {w : World} {A : Option Addr} {n : Nat} {xs : List Int} (h : Rns w A n xs) {k : Nat} (hk : k ≤ n) : Rns w A k (xs.take k) := by
  refine ⟨by rw [List.length_take, h.1]; omega, h.2.1.take k, fun hn => ?_⟩
  obtain ⟨b, off, rfl, hb, hcell⟩ := h.2.2 (by omega)
  refine ⟨b, off, rfl, hb, fun j hj => ?_⟩
  rw [hcell j (by omega)]
  simp [List.getD_eq_getElem?_getD, hj]
theorem rns_new {w : World} {x : Int} {e : TypeId} (h : 0 ≤ x ∧ x ≤ 1114111) : Rns (w.alloc (.cells #[.int .i32 x] e)) (some ⟨w.heap.size, 0, none⟩) 1 [x] := by
  refine ⟨rfl, fun y hy => by simp at hy; subst hy; exact h, fun _ => ⟨_, _, rfl, by simp, fun j hj => ?_⟩⟩
  obtain rfl : j = 0 := by omega
  rw [Nat.zero_add, World.cell?_alloc_mark]
  simp
theorem run_conv {P : Program} (w : World) (src dst e : TypeId) (s : ByteArray) (hs : P.underlying src = some .string) (hd : P.underlying dst = some (.slice e)) (he : P.underlying e = some (.int .i32)) (h : s.size ≤ 8796093022208) :
    ∃ cap W1, (convert src dst (.string s)).run P w = .ok (.slice (some ⟨w.heap.size, 0, none⟩) (txm.runes s).length cap) W1 ∧ Rns W1 (some ⟨w.heap.size, 0, none⟩) (txm.runes s).length (txm.runes s) ∧ Below w.heap.size w W1 := by
  have hl : (txm.runes s).length ≤ s.size := txm.runesF_len s _ _
  have e1 := txm.conv_eq s
  have e2 : (Conv.runesFrom s s.size 0 #[]).size = (txm.runes s).length := by rw [e1]; simp
  have h1 := run_runes_of_string (P := P) w src dst e s hs hd he (by rw [e2]; omega)
  rw [e2] at h1
  refine ⟨_, _, h1, ⟨rfl, txm.runesF_fit s _ _, fun _ => ⟨_, _, rfl, by simp, fun j hj => ?_⟩⟩, ?_⟩
  · rw [Nat.zero_add]
    have := World.cell?_alloc_mark w.drew (Conv.runesFrom s s.size 0 #[] ++ Array.replicate (grownCap w (txm.runes s).length 0 e - (txm.runes s).length) (.int .i32 0)) e (0, 0) j
    refine this.trans ?_
    rw [Array.getElem?_append_left (by rw [e2]; exact hj), e1]
    simp [List.getD_eq_getElem?_getD, List.getElem?_eq_getElem hj]
  · exact ((Below.refl w.heap.size w).drew).alloc (Nat.le_refl _) _
end Go.Proofs.YtajiolcdjjkedaaDoor.tlvc
namespace Go.Proofs.YtajiolcdjjkedaaDoor.txc
theorem Tryd.info21 : (Tryd.prog.info? 21).map (fun i => (i.zero, i.size, i.bytes)) = some (some (.int .i32 0), 1, 4) := by kernel_rfl
open Go.RowKit Go.Proofs.YtajiolcdjjkedaaDoor.txm Go.Proofs.YtajiolcdjjkedaaDoor.tlvc
set_option linter.unusedVariables false
theorem own_nextR {w wr w' : World} {v v' : Value} {xs ys zs : List Int} {n : Nat} {c : Array Value} {e : TypeId} (hb : Below w.heap.size w wr) (hown : wr.ownsRow w.heap.size 21 1 v xs.length (rvals xs)) (hz : zs = xs ++ ys) (hn : n = xs.length + ys.length)
    (h : w'.ownsRow w.heap.size 21 1 v' n (rvals xs ++ rvals ys)) (hg : (wr.alloc (.cells c e)).grownBy w' v.ownBlock) :
    w'.ownsRow w.heap.size 21 1 v' zs.length (rvals zs) ∧ Below w.heap.size w w' := by
  subst hz hn
  rw [← rvals_append] at h
  rw [List.length_append]
  exact ⟨h, (hb.alloc hb.size _).grown hg (by have := hb.size; simp; omega) fun j hj => (hown.lt j hj).1⟩
theorem take_next {ys : List Int} {k : Nat} {x : Int} (h : k < ys.length) (hx : ys.getD k 0 = x) : ys.take (k + 1) = ys.take k ++ [x] := by
  rw [List.take_succ_eq_append_getElem h, ← hx]
  simp [List.getD_eq_getElem?_getD, List.getElem?_eq_getElem h]
theorem k1_noth {r : Int} (h : kindF r = 1) : Noth r := by
  unfold kindF at h; split at h
  · assumption
  · split at h
    · exact absurd h (by decide)
    · split at h <;> exact absurd h (by decide)
theorem k2_blank {r : Int} (h : kindF r = 2) : Blank r := by
  unfold kindF at h; split at h
  · exact absurd h (by decide)
  · split at h
    · assumption
    · split at h <;> exact absurd h (by decide)
theorem k0_none {r : Int} (h : kindF r = 0) : ¬ Noth r ∧ ¬ Blank r ∧ ¬ Great r := by
  unfold kindF at h; split at h
  · exact absurd h (by decide)
  · split at h
    · exact absurd h (by decide)
    · split at h
      · exact absurd h (by decide)
      · exact ⟨by assumption, by assumption, by assumption⟩
theorem noth_at (r : Int) (b : Bool) (w : World) (h : decide (Noth r) = b) : Calls Tryd.prog 33 #[.int .i32 r] w fun e w' => e = .returned (.bool b) ∧ w = w' := by subst h; exact noth_any r w
theorem blank_at (r : Int) (b : Bool) (w : World) (h : decide (Blank r) = b) : Calls Tryd.prog 35 #[.int .i32 r] w fun e w' => e = .returned (.bool b) ∧ w = w' := by subst h; exact blank_any r w
theorem great_at (r : Int) (b : Bool) (w : World) (h : decide (Great r) = b) : Calls Tryd.prog 34 #[.int .i32 r] w fun e w' => e = .returned (.bool b) ∧ w = w' := by subst h; exact great_any r w
end Go.Proofs.YtajiolcdjjkedaaDoor.txc
