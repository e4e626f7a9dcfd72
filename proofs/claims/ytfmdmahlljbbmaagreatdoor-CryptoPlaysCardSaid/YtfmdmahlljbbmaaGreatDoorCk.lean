/- Both sides within CryptoPlays: a call on each; an operation among the arguments. -/
import Derived.Test.YtfmdmahlljbbmaaGreatDoorCi
import Derived.Test.YtfmdmahlljbbmaaGreatDoorCj
import Derived.Test.YtfmdmahlljbbmaaGreatDoorCg
import Derived.Test.YtfmdmahlljbbmaaGreatDoorDo
namespace Go.Proofs.YtfmdmahlljbbmaaGreatDoor.vtc
open Go.RowKit Go.Proofs.YtfmdmahlljbbmaaGreatDoor.tlvc Go.Proofs.YtfmdmahlljbbmaaGreatDoor.tmc
set_option linter.unusedVariables false
section
variable {w : World} {Q X : Nat → Prop} {vb mb : Nat} {ob : Option Nat} {rb : Nat} {od : Option Nat} {L Ld : List Tm} {wx : World}
theorem TV.vok (h : TV w Q X vb mb ob rb od L Ld wx) (ht : txc.Tab w.heap.size w) (hs : ∀ x ∈ L, szT x ≤ 4096) : Vok (Sp w Q X rb od) w.heap.size vb mb ob L wx := ⟨h.vlt, hs, ht.on h.bel, h.bel.size, fun g hg => (h.vlt.all g hg).1⟩
theorem TV.rok (h : TV w Q X vb mb ob rb od Ld L wx) (hs : ∀ x ∈ L, szT x ≤ 4096) : Rok Q rb od L wx := ⟨h.rvl, h.qb, hs⟩
theorem TV.good (h : TV w Q X vb mb ob rb od L Ld wx) (hs : ∀ x ∈ L, szT x ≤ 4096) : Good L := ⟨h.vlt.once, h.vlt.closed, h.vlt.right, hs, h.vlt.len⟩
theorem TV.far (h : TV w Q X vb mb ob rb od L Ld wx) {g : Nat} (hg : g < w.heap.size) : ¬ Mut vb mb ob g := fun hm => by have := (h.vlt.all g hm).1; omega
theorem TV.did (h : TV w Q X vb mb ob rb od L Ld wx) (hX : ∀ g, X g → g < wx.heap.size) {F : FuncId} {args : Array Value} {r : Int × Int × List Tm} (hc : Calls Tryz.prog F args wx (InternPost (Sp w Q X rb od) vb mb ob wx r)) {k ee : Int} {L2 : List Tm} (hr : r = (k, ee, L2)) :
    Calls Tryz.prog F args wx fun e w' => ∃ ob', e = .returned (.tuple #[.int .i64 k, .int .i64 ee]) ∧ TV w Q X vb mb ob' rb od L2 Ld w' ∧ wx.heap.size ≤ w'.heap.size ∧ ∀ g, X g → w'.heap[g]? = wx.heap[g]? := by
  subst hr
  exact hc.mono fun e w' hp => h.prog hX hp
theorem TV.rdid (h : TV w Q X vb mb ob rb od Ld L wx) (hX : ∀ g, X g → g < wx.heap.size) {F : FuncId} {args : Array Value} {r : Int × Int × List Tm} (hc : Calls Tryz.prog F args wx (RInternQ Q rb od wx r)) {k ee : Int} {L2 : List Tm} (hr : r = (k, ee, L2)) :
    Calls Tryz.prog F args wx fun e w' => ∃ od' Q', e = .returned (.tuple #[.int .i64 k, .int .i64 ee]) ∧ TV w Q' X vb mb ob rb od' Ld L2 w' := by
  subst hr
  exact hc.mono fun e w' hp => by
    obtain ⟨od', Q', h1, h2, _⟩ := h.doc hX hp
    exact ⟨od', Q', h1, h2⟩
end
theorem shs_cons {s : dtc.Sh} {ss : List dtc.Sh} {ds : List dtc.Dt} (h : dtc.IsShs (s :: ss) ds) : ∃ d ds', ds = d :: ds' ∧ dtc.IsSh s d ∧ dtc.IsShs ss ds' := by
  cases ds with
  | nil => unfold dtc.IsShs at h; exact h.elim
  | cons d ds' => unfold dtc.IsShs at h; exact ⟨d, ds', rfl, h⟩
theorem shs_nil {ds : List dtc.Dt} (h : dtc.IsShs [] ds) : ds = [] := by
  cases ds with
  | nil => rfl
  | cons d ds' => unfold dtc.IsShs at h; exact h.elim
theorem lies_int {B : Nat → Prop} {w : World} {d : dtc.Dt} {ds : List dtc.Dt} {cs : List Value} (hs : dtc.IsSh (.int .i64) d) (h : dtc.LiesAll B w (d :: ds) cs) : ∃ n b, cs = .int .i64 n :: b ∧ I64 n ∧ dtc.LiesAll B w ds b := by
  unfold dtc.IsSh at hs
  obtain ⟨n, rfl⟩ := hs
  unfold dtc.LiesAll at h
  obtain ⟨a, b, rfl, h1, h2⟩ := h
  unfold dtc.Lies at h1
  obtain ⟨rfl, hw⟩ := h1
  exact ⟨n, b, rfl, bounds_i64 hw, h2⟩
theorem op_at {w : World} {A : Option Addr} {len : Nat} {xs : List dtc.Dt} (hs : ∀ x ∈ xs, dtc.IsSh (.agg [.int .i64, .int .i64, .int .i64, .int .i64, .bys]) x) (hw : 0 < len → ∃ g off, A = some ⟨g, off, none⟩ ∧ g < w.heap.size ∧ dtc.LiesRow (fun _ => True) w g (dtc.Sh.sz (.agg [.int .i64, .int .i64, .int .i64, .int .i64, .bys])) off xs) (he : xs.length = len) (hf : dtc.fitDts xs) {i : Nat} (hi : i < len) :
    ∃ g off what a b num D la ca msg, A = some ⟨g, off, none⟩ ∧ (I64 what ∧ I64 a ∧ I64 b ∧ I64 num) ∧ la ≤ ca ∧ ca ≤ maxLen ∧ la ≤ 140737488351232 ∧ (0 < la → ∀ g' o' sp, D = some ⟨g', o', sp⟩ → g' < w.heap.size) ∧ ∀ W, Below w.heap.size w W →
      (W.cell? ⟨g, off + i * 5, none⟩ = some (.int .i64 what) ∧ W.cell? ⟨g, off + i * 5 + 1, none⟩ = some (.int .i64 a) ∧ W.cell? ⟨g, off + i * 5 + 2, none⟩ = some (.int .i64 b) ∧ W.cell? ⟨g, off + i * 5 + 3, none⟩ = some (.int .i64 num) ∧ W.cell? ⟨g, off + i * 5 + 4, none⟩ = some (.slice D la ca)) ∧ Bys W D la msg := by
  obtain ⟨g, off, rfl, hg, hr⟩ := hw (by omega)
  have hsz : dtc.Sh.sz (.agg [.int .i64, .int .i64, .int .i64, .int .i64, .bys]) = 5 := by
    first | rfl | decide | (unfold dtc.Sh.sz; simp [dtc.szs, dtc.Sh.sz])
  rw [hsz] at hr
  have hil : i < xs.length := by omega
  obtain ⟨cs, hl, hc, hl2⟩ := hr.at i hil
  have hx := hs xs[i] (List.getElem_mem _)
  have hfx := dtc.fitDts_all.1 hf xs[i] (List.getElem_mem _)
  obtain ⟨X, hX⟩ : ∃ X, xs[i] = X := ⟨_, rfl⟩
  rw [hX] at hl2 hx hfx
  unfold dtc.IsSh at hx
  obtain ⟨ds, rfl, hss⟩ := hx
  unfold dtc.fitDt at hfx
  unfold dtc.Lies at hl2
  obtain ⟨d0, ds0, rfl, t0, hss⟩ := shs_cons hss
  obtain ⟨d1, ds1, rfl, t1, hss⟩ := shs_cons hss
  obtain ⟨d2, ds2, rfl, t2, hss⟩ := shs_cons hss
  obtain ⟨d3, ds3, rfl, t3, hss⟩ := shs_cons hss
  obtain ⟨d4, ds4, rfl, t4, hss⟩ := shs_cons hss
  obtain rfl := shs_nil hss
  obtain ⟨what, c0, rfl, i0, hl2⟩ := lies_int t0 hl2
  obtain ⟨a, c1, rfl, i1, hl2⟩ := lies_int t1 hl2
  obtain ⟨b, c2, rfl, i2, hl2⟩ := lies_int t2 hl2
  obtain ⟨num, c3, rfl, i3, hl2⟩ := lies_int t3 hl2
  unfold dtc.IsSh at t4
  obtain ⟨msg, rfl⟩ := t4
  unfold dtc.LiesAll at hl2
  obtain ⟨p, q, rfl, h1, h2⟩ := hl2
  unfold dtc.Lies at h1
  obtain ⟨D, la, ca, rfl, k1, k2, k3, _⟩ := h1
  have hm := dtc.fitDts_all.1 hfx (.bys msg) (by simp)
  unfold dtc.fitDt at hm
  have hml := k3.1
  refine ⟨g, off, what, a, b, num, D, la, ca, msg, rfl, ⟨i0, i1, i2, i3⟩, k1, k2, by omega, fun hp g' o' sp e => ?_, fun W hW => ⟨⟨?_, ?_, ?_, ?_, ?_⟩, k3.below hW⟩⟩
  · obtain ⟨b', off', e', hb', _⟩ := k3.2.2 hp
    rw [e'] at e
    cases e
    exact hb'
  · exact (hW.cell (p := ⟨g, _, none⟩) hg).trans (hc 0 _ rfl)
  · exact (hW.cell (p := ⟨g, _, none⟩) hg).trans (hc 1 _ rfl)
  · exact (hW.cell (p := ⟨g, _, none⟩) hg).trans (hc 2 _ rfl)
  · exact (hW.cell (p := ⟨g, _, none⟩) hg).trans (hc 3 _ rfl)
  · exact (hW.cell (p := ⟨g, _, none⟩) hg).trans (hc 4 _ rfl)
theorem box5 {w W : World} (h : Below w.heap.size w W) {b : Nat} {y0 y1 y2 y3 y4 : Value} {T : TypeId} (hq : w.heap[b]? = some (.cells #[y0, y1, y2, y3, y4] T)) : W.cell? ⟨b, 0, none⟩ = some y0 ∧ W.cell? ⟨b, 1, none⟩ = some y1 ∧ W.cell? ⟨b, 2, none⟩ = some y2 ∧ W.cell? ⟨b, 3, none⟩ = some y3 ∧ W.cell? ⟨b, 4, none⟩ = some y4 := by
  have e := (h.block b (Array.getElem?_eq_some_iff.1 hq).1).trans hq
  exact ⟨(Lib.cell_of_heap e _).trans rfl, (Lib.cell_of_heap e _).trans rfl, (Lib.cell_of_heap e _).trans rfl, (Lib.cell_of_heap e _).trans rfl, (Lib.cell_of_heap e _).trans rfl⟩
end Go.Proofs.YtfmdmahlljbbmaaGreatDoor.vtc
