/- Who has a key, a power, has what they open: within a vault's terms. -/
import Derived.Test.YtlhogjigdmpokaaGreatDoorFh
namespace Go.Proofs.YtlhogjigdmpokaaGreatDoor.vtc
open Go.RowKit Go.Proofs.YtlhogjigdmpokaaGreatDoor.tlvc Go.Proofs.YtlhogjigdmpokaaGreatDoor.tmc Go.Proofs.YtlhogjigdmpokaaGreatDoor.rfc
set_option linter.unusedVariables false
theorem opens_seal {L L1 : List Tm} {key s : Int} {n : Nat} (hL : Good L) (hn : n < L.length) (h : ofF L 4 key (menF (n : Int)) = (s, 0, L1)) (hs : (n : Int) < s) : (n : Int) ∈ clF L1 [key, s] := by
  obtain ⟨t, _, h1, h2, _, hg⟩ := of_ok hL h
  obtain ⟨k, rfl, hk⟩ := hand_some h1
  obtain ⟨i, rfl, hi⟩ := hand_some h2
  have hil := (List.getElem?_eq_some_iff.1 hi).1
  have hfk : findV t L1 = some k := (findV_once hg.once).2 hk
  have hm := mentions_men (n := n) (N := i) (by omega) (by have := hg.len; omega)
  exact (cl_nat n).2 (cl_opens hi hfk (K := KofF [(k : Int), (i : Int)]) (by unfold KofF; simp) (by unfold KofF; simp) (by rw [hm]; simp))
theorem opens_pow {L2 L3 : List Tm} {p q y : Int} {xt : Tm} (hL : Good L2) (hp : hand L2 p = some (.mk 7 0 [] [xt])) (h : powL L2 p y = (q, 0, L3)) : q ∈ clF L3 [p, y] := by
  obtain ⟨bt, yt, pp, e1, e2, e3, e4⟩ := powL_ok h
  obtain ⟨i, rfl, hi, _, hpre, hg⟩ := intern_ok hL e4
  obtain rfl := Option.some.inj (e1.symm.trans hp)
  obtain ⟨_, _, _, rfl, _⟩ := powF_some e3
  obtain ⟨pn, rfl, hpn⟩ := hand_some (hand_pre hpre hp)
  obtain ⟨yn, rfl, hyn⟩ := hand_some (hand_pre hpre e2)
  have hfy : findV yt L3 = some yn := (findV_once hg.once).2 hyn
  have hyl := findV_lt hfy
  obtain ⟨z, hz, rfl⟩ := without_perm [xt] (putF [xt] yt) yt (putF_perm [xt] yt)
  refine (cl_nat i).2 (cl_power (y := yn) (K := KofF [(pn : Int), (yn : Int)]) hpn (q := i) (m' := 0) (d' := []) (ks' := putF [xt] z) ?_ (by unfold KofF; simp) hz fun k hk => ?_)
  · exact hi
  · rw [List.mem_singleton.1 hk]
    exact ⟨yn, hfy, cl_closed.known yn hyl (by unfold KofF; simp)⟩
set_option maxRecDepth 100000 in
theorem mention_new (n : Int) (w : World) (h : 0 ≤ n ∧ n < 281474976710656) : Calls Tryz.prog 22 #[.int .i64 n] w fun e w' => ∃ A c, e = .returned (.slice A 10 c) ∧ Bys w' A 10 (menF n) ∧ (10 ≤ c ∧ c ≤ maxLen) ∧ Below w.heap.size w w' ∧ ∀ g off sp, A = some ⟨g, off, sp⟩ → w.heap.size ≤ g := by
  have he : menF n = 4 :: 8 :: hbF n := if_pos h
  obtain ⟨A', c', w', hrun, h2, h3, h4, h5⟩ := app_two (w.alloc (.cells (vals (hbF n)).toArray 5)) 4 8 (some ⟨w.heap.size, 0, none⟩) 8 8 (hbF n) (hb_bys n w h) (by omega) (by omega) (by omega)
  rw [← he] at h3
  have hfar : ∀ g off sp, A' = some ⟨g, off, sp⟩ → w.heap.size ≤ g := fun g off sp e => by
    obtain ⟨A2, c2, e2, _, _, hg⟩ := own4_shape h2
    cases e2
    obtain ⟨g2, e3, hb2, _⟩ := hg (by omega)
    rw [e] at e3
    cases e3
    rw [World.size_alloc] at hb2
    omega
  have HE := Lib.hid (And.intro h3 (And.intro h4 (And.intro ((below_new w _).trans (h5.mono (below_new w _).size)) hfar)))
  have HB := Lib.hid (bytes_yes n w h)
  have hnil := fun W => eql_nil (P := Tryz.prog) W 24 5 (some ⟨w.heap.size, 0, none⟩) 8 8 Tryz.underlying24
  obtain ⟨W1, hW1⟩ : ∃ x, w.alloc (.cells (vals (hbF n)).toArray 5) = x := ⟨_, rfl⟩
  rw [hW1] at HB hrun
  clear h2 h3 h4 h5 hfar
  go_enter Tryz.func22, Tryz.ntmps22
  go_wp2_with (first | (go_at_call 42; refine HB.out.mono ?_; rintro e w1 ⟨rfl, rfl⟩) | (at_builtin; refine wpl_append rfl (.tmp 8) (.tmp 9) 24 rfl _ _ _ rfl rfl hrun ?_))
  go_ret
  exact ⟨A', c', rfl, HE.out.1, HE.out.2.1, HE.out.2.2.1, HE.out.2.2.2⟩
end Go.Proofs.YtlhogjigdmpokaaGreatDoor.vtc
