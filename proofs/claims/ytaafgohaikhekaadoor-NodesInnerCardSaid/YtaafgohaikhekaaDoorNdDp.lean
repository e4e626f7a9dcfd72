/- One round of NodesDeep's chain. -/
import Derived.Test.YtaafgohaikhekaaDoorNdQ
namespace Go.Proofs.YtaafgohaikhekaaDoor.ndc
open Go.RowKit Go.Proofs.YtaafgohaikhekaaDoor.tlvc Go.Proofs.YtaafgohaikhekaaDoor.tlvd Go.Proofs.YtaafgohaikhekaaDoor.txc
set_option linter.unusedVariables false
theorem or_160 {y : Int} (h0 : 0 ≤ y) (h : y ≤ 31) : bits .or .u8 y 160 = y + 160 := by
  have key : ∀ k : Fin 32, bits .or .u8 (k.val : Int) 160 = (k.val : Int) + 160 := by decide +kernel
  obtain ⟨k, rfl⟩ := Int.eq_ofNat_of_zero_le h0
  exact key ⟨k, by omega⟩
/-- The chain so far. -/
structure Deep (w : World) (p : Nat) (T : Int) (i : Nat) (A : Option Addr) (c : Nat) (tg : Int) (K : Option Addr) (kl ck : Nat) (wx : World) : Prop where
  bel : Below w.heap.size w wx
  lo : w.heap.size ≤ p
  hi : p < wx.heap.size
  bys : Bys wx A (bN T i).length (bN T i)
  cap : (bN T i).length ≤ c ∧ c ≤ maxLen
  far : ∀ g off sp, A = some ⟨g, off, sp⟩ → g ≠ p
  box : wx.heap[p]? = some (.cells #[.int .u8 tg, .slice none 0 0, .slice K kl ck] 25)
  nd : NdC (fun g => g ≠ p) wx (nN T i) (.int .u8 tg) (.slice none 0 0) (.slice K kl ck)
theorem deep_step {w wr w5 : World} {p i c : Nat} {T : Int} {A : Option Addr} {tg : Int} {K : Option Addr} {kl ck : Nat} (h : Deep w p T i A c tg K kl ck wr) (hT : 0 ≤ T ∧ T ≤ 255)
    {w3 : World} (h3 : w3 = ((((wr.setCell ⟨p, 0, none⟩ (.int .u8 T)).setCell ⟨p, 1, none⟩ (.slice none 0 0)).setCell ⟨p, 2, none⟩ (.slice (some ⟨wr.heap.size + 1, 0, none⟩) 1 1)).alloc (.cells #[.int .u8 tg, .slice none 0 0, .slice K kl ck] 25)).alloc (.cells #[.int .u8 tg, .slice none 0 0, .slice K kl ck] 25))
    {hd : Array Value} {TH : TypeId} {v' : Value} {n : Nat} {xs : List Int} (hgr : (w3.alloc (.cells hd TH)).grownBy w5 (some w3.heap.size)) (hown : w5.ownsRow w3.heap.size 5 1 v' n (vals xs)) (hf : Fit xs) (hx : xs = bN T (i + 1)) :
    ∃ A' c', v' = .slice A' (bN T (i + 1)).length c' ∧ Deep w p T (i + 1) A' c' T (some ⟨wr.heap.size + 1, 0, none⟩) 1 1 w5 := by
  obtain ⟨hb, hlo, hhi, hby, hcp, hfar, hbox, hnd⟩ := h
  obtain ⟨ws, hws⟩ : ∃ z, ((wr.setCell ⟨p, 0, none⟩ (.int .u8 T)).setCell ⟨p, 1, none⟩ (.slice none 0 0)).setCell ⟨p, 2, none⟩ (.slice (some ⟨wr.heap.size + 1, 0, none⟩) 1 1) = z := ⟨_, rfl⟩
  rw [hws] at h3
  have hzs : ws.heap.size = wr.heap.size := by rw [← hws, set_size, set_size, set_size]
  have hz3 : w3.heap.size = wr.heap.size + 2 := by rw [h3]; simp; omega
  have hz5 : wr.heap.size + 3 ≤ w5.heap.size := by have := hgr.size; simp at this; omega
  have k5 : ∀ g, g < w3.heap.size → w5.heap[g]? = w3.heap[g]? := fun g hg => by
    rw [hgr.block g (by simp; omega) (by intro e; have := Option.some.inj e; omega), heap_old_ _ _ hg]
  have ks : ∀ g, g < wr.heap.size → w5.heap[g]? = ws.heap[g]? := fun g hg => by
    rw [k5 g (by omega), h3, heap_old_ _ _ (by simp; omega), heap_old_ _ _ (by omega)]
  have old : ∀ g, g < wr.heap.size → g ≠ p → w5.heap[g]? = wr.heap[g]? := fun g hg hne => by
    rw [ks g hg, ← hws, set_heap_other _ _ _ _ _ hne, set_heap_other _ _ _ _ _ hne, set_heap_other _ _ _ _ _ hne]
  have hmid : w5.heap[wr.heap.size + 1]? = some (.cells #[.int .u8 tg, .slice none 0 0, .slice K kl ck] 25) := by
    rw [k5 _ (by omega), h3]
    have := heap_new_ (ws.alloc (.cells #[.int .u8 tg, .slice none 0 0, .slice K kl ck] 25)) (.cells #[.int .u8 tg, .slice none 0 0, .slice K kl ck] 25)
    rwa [show (ws.alloc (.cells #[.int .u8 tg, .slice none 0 0, .slice K kl ck] 25)).heap.size = wr.heap.size + 1 by simp; omega] at this
  have hp5 : w5.heap[p]? = some (.cells #[.int .u8 T, .slice none 0 0, .slice (some ⟨wr.heap.size + 1, 0, none⟩) 1 1] 25) := by
    rw [ks _ hhi, ← hws]
    exact set_heap _ _ 2 _ _ _ _ (set_heap _ _ 1 _ _ _ _ (set_heap _ _ 0 _ _ _ _ hbox))
  have hnd5 : NdC (fun g => g ≠ p) w5 (nN T i) (.int .u8 tg) (.slice none 0 0) (.slice K kl ck) := NdC.stays ⟨by omega, fun q hq hl => cell_same (old q.block hl hq)⟩ _ _ _ _ hnd
  obtain ⟨A', c', hv, hn1, hn2, _⟩ := own_shape hown
  subst hx
  have hlen : (bN T (i + 1)).length = n := by have := hown.1; rw [vals_length] at this; omega
  have hA' : ∀ g off sp, A' = some ⟨g, off, sp⟩ → g ≠ p := fun g off sp e => by
    have := (hown.lt g (by rw [hv, e]; rfl)).1
    omega
  subst hv
  refine ⟨A', c', by rw [hlen], ⟨?_, hlo, by omega, ?_, by rw [hlen]; exact ⟨hn1, hn2⟩, hA', hp5, ?_⟩⟩
  · refine ⟨?_, ?_, ?_, by have := hb.size; omega, fun g hg => (old g (by have := hb.size; omega) (by omega)).trans (hb.block g hg)⟩
    · rw [hgr.os]; show w3.os = _; rw [h3]; show ws.os = _; rw [← hws]; exact hb.os
    · rw [hgr.tape]; show w3.tape = _; rw [h3]; show ws.tape = _; rw [← hws]; exact hb.tape
    · rw [hgr.output]; show w3.output = _; rw [h3]; show ws.output = _; rw [← hws]; exact hb.output
  · rw [hlen]; exact Bys.own hown hf
  · show NdC _ _ (.mk T [] [nN T i]) _ _ _
    unfold NdC
    refine ⟨rfl, hT, ⟨none, 0, 0, rfl, Nat.le_refl _, Nat.zero_le _, Bys.nil_ _ _, fun h => absurd h (by omega)⟩, _, 1, rfl, by simp, by unfold maxLen; decide, fun _ => ⟨wr.heap.size + 1, 0, rfl, by omega, by omega, ?_⟩⟩
    unfold KidsC
    refine ⟨⟨.int .u8 tg, .slice none 0 0, .slice K kl ck, by rw [Lib.cell_of_heap hmid]; rfl, by rw [Lib.cell_of_heap hmid]; rfl, by rw [Lib.cell_of_heap hmid]; rfl, hnd5⟩, ?_⟩
    unfold KidsC
    trivial
end Go.Proofs.YtaafgohaikhekaaDoor.ndc
