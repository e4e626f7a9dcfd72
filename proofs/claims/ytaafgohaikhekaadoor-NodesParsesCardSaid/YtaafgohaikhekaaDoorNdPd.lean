/- The document's printed, and Print. -/
import Derived.Test.YtaafgohaikhekaaDoorNdPc
namespace Go.Proofs.YtaafgohaikhekaaDoor.ndc
open Go.RowKit Go.Proofs.YtaafgohaikhekaaDoor.tlvc Go.Proofs.YtaafgohaikhekaaDoor.tlvd Go.Proofs.YtaafgohaikhekaaDoor.txc
set_option linter.unusedVariables false
set_option linter.unusedSimpArgs false
theorem szL_len : ∀ ks : List Nd, ks.length ≤ szL ks
  | [] => by simp
  | k :: ks => by
    have h := szL_len ks
    have : 1 ≤ szN k := by obtain ⟨t, b, l⟩ := k; unfold szN; omega
    unfold szL
    simp only [List.length_cons]
    omega
theorem bytes_drop {ks : List Nd} {i o : Nat} (h : i < ks.length) (bs : List (List Int)) : bytesL (ks.drop i) o bs = match writeF ks[i] o with | .no e => (none, e) | .ok b => bytesL (ks.drop (i + 1)) o (bs ++ [b]) := by
  rw [List.drop_eq_getElem_cons h]
  conv => lhs; unfold bytesL
  cases writeF ks[i] o <;> rfl
/-- How the document's printed ends. -/
def DPost (w : World) (r : WR) (e : Ending) (w' : World) : Prop :=
  Below w.heap.size w w' ∧ match r with
  | .no er => ∃ A c, e = .returned (.tuple #[.slice A 0 c, .int .i64 er])
  | .ok b => ∃ A c, e = .returned (.tuple #[.slice A b.length c, .int .i64 0]) ∧ Bys w' A b.length b ∧ (b.length ≤ c ∧ c ≤ maxLen) ∧ ∀ g off sp, A = some ⟨g, off, sp⟩ → w.heap.size ≤ g
/-- What Put answers, as the end of writing. -/
theorem put_post {w w2 w' : World} {t : Int} {xs : List Int} {R : WR} {A : Option Addr} {c : Nat} (h : R = putW t xs) (hb : Below w.heap.size w w') (hy : Bys w' A (putF t xs).1.length (putF t xs).1) (hc : (putF t xs).1.length ≤ c ∧ c ≤ maxLen) (hf : ∀ b off, A = some ⟨b, off, none⟩ → w2.heap.size ≤ b) (hz : w.heap.size ≤ w2.heap.size) :
    DPost w R (.returned (.tuple #[.slice A (putF t xs).1.length c, .int .i64 (putF t xs).2])) w' := by
  subst h
  refine ⟨hb, ?_⟩
  unfold putW
  by_cases h0 : (putF t xs).2 = 0
  · rw [if_pos h0]
    refine ⟨A, c, by rw [h0], hy, hc, fun g off sp e => ?_⟩
    have hpos := putF_pos h0
    obtain ⟨b', off', e', _⟩ := hy.2.2 hpos
    have := hf b' off' e'
    rw [e'] at e; cases e; omega
  · rw [if_neg h0]
    have hx : (putF t xs).1 = [] := by
      unfold putF at h0 ⊢
      split
      · rfl
      · rename_i h1
        rw [if_neg h1] at h0
        split
        · rfl
        · rename_i h2
          rw [if_neg h2] at h0
          exact absurd rfl h0
    exact ⟨A, c, by rw [hx]; rfl⟩
/-- The document's printed at a node. -/
def Prints (n : Nd) : Prop := ∀ (B : Nat → Prop) (v : Value) (deep : Nat) (w : World), deep ≤ 32 → NdV B w n v → Tabs w → Calls Tryd.prog 20 #[v, .int .i64 deep] w (DPost w (writeF n deep))
theorem pr_no {w w' : World} {e : Int} (h : Below w.heap.size w w') : DPost w (.no e) (.returned (.tuple #[.slice none 0 0, .int .i64 e])) w' := ⟨h, none, 0, rfl⟩
set_option maxRecDepth 100000 in
set_option maxHeartbeats 32000000 in
theorem printed_step (t : Int) (b : List Int) (ks : List Nd) (hsz : szL ks ≤ 20000) (hk : ∀ k ∈ ks, Prints k) : Prints (.mk t b ks) := by
  intro B v deep w hdp hv hT
  obtain ⟨c0, c1, c2, rfl, hc⟩ := hv
  unfold NdC at hc
  obtain ⟨rfl, ht, ⟨A, la, ca, rfl, hA1, hA2, hA3, _⟩, K, ck, rfl, hK1, hK2, hK3⟩ := hc
  obtain ⟨W0, hW0⟩ : ∃ x, w.alloc (.cells #[.int .u8 t, .slice A la ca, .slice K ks.length ck] 25) = x := ⟨_, rfl⟩
  have hbw : Below w.heap.size w W0 := by rw [← hW0]; exact below_new _ _
  have q0 : W0.heap[w.heap.size]? = some (.cells #[.int .u8 t, .slice A la ca, .slice K ks.length ck] 25) := by rw [← hW0]; exact box_new _ _ _ _ _
  have hzz : w.heap.size < W0.heap.size := by rw [← hW0]; simp
  have hbx : ∀ W, Below W0.heap.size W0 W → W.cell? ⟨w.heap.size, 0, none⟩ = some (.int .u8 t) ∧ W.cell? ⟨w.heap.size, 1, none⟩ = some (.slice A la ca) ∧ W.cell? ⟨w.heap.size, 2, none⟩ = some (.slice K ks.length ck) := fun W hW => box_cells hW q0 hzz
  have hby : ∀ W, Below W0.heap.size W0 W → Bys W A la b := fun W hW => hA3.below (hbw.trans (hW.mono hbw.size))
  have hTT : ∀ W, Below W0.heap.size W0 W → Tabs W := fun W hW => hT.below (hbw.trans (hW.mono hbw.size))
  have htg := fun W => refTag_any t W ht
  have hbits := comp_bits ht
  have hw0 : 32 ≤ deep → writeF (.mk t b ks) deep = .no 41 := w_deep
  have hw1 : ¬ 32 ≤ deep → tagF t ≠ 0 → writeF (.mk t b ks) deep = .no (tagF t) := w_tag
  have hw2 : ¬ 32 ≤ deep → tagF t = 0 → compB t = false → writeF (.mk t b ks) deep = if 0 < ks.length then .no 43 else if bodyB t b = true then putW t b else .no 43 := w_plain
  have hw3 : ¬ 32 ≤ deep → tagF t = 0 → compB t = true → writeF (.mk t b ks) deep = if 0 < b.length then .no 43 else match bytesL ks (deep + 1) [] with | (none, e) => .no e | (some l, _) => if t = 49 ∧ risingB l = false then .no 42 else putW t l.flatten := w_comp ht
  rw [hA3.1] at hw3
  obtain ⟨RES, hRES⟩ : ∃ x, writeF (.mk t b ks) deep = x := ⟨_, rfl⟩
  rw [hRES] at hw0 hw1 hw2 hw3 ⊢
  obtain ⟨tg, htgv⟩ : ∃ x, tagF t = x := ⟨_, rfl⟩
  rw [htgv] at htg hw1 hw2 hw3
  obtain ⟨cp, hcp⟩ : ∃ x, compB t = x := ⟨_, rfl⟩
  rw [hcp] at hbits hw2 hw3
  have hnl := szL_len ks
  have HBX := Lib.hid hbx
  have HBY := Lib.hid hby
  have HT := Lib.hid hTT
  have HBW := Lib.hid hbw
  have HTG := Lib.hid htg
  have H0 := Lib.hid hw0
  have H1 := Lib.hid hw1
  have H2 := Lib.hid hw2
  have H3 := Lib.hid hw3
  have HK := Lib.hid hk
  have HK3 := Lib.hid hK3
  obtain ⟨j0, j1, j2⟩ := hbx _ (Below.refl _ _)
  obtain ⟨lk, hlk⟩ : ∃ x, ks.length = x := ⟨_, rfl⟩
  rw [hlk] at hW0 hK1 j2 HBX H2 hnl ⊢
  have HLK := Lib.hid hlk
  have hK9 : ck ≤ 9223372036854775807 := by unfold maxLen at hK2; omega
  have hA9 : ca ≤ 9223372036854775807 := by unfold maxLen at hA2; omega
  clear hRES htgv hcp hbx hby hTT htg hw0 hw1 hw2 hw3 hk hK3 hbw hA3 q0 hzz hT hlk
  by_cases h32 : 32 ≤ deep
  · have hz : (32 : Int) ≤ (deep : Int) := by omega
    have hE := H0.out h32
    clear H0 H1 H2 H3 hbits
    subst hE
    go_enter Tryd.func20, Tryd.ntmps20
    go_wp2
    go_ret2
    exact pr_no HBW.out
  · have hz : ¬ (32 : Int) ≤ (deep : Int) := by omega
    by_cases htz : tg = 0
    · subst htz
      cases cp with
      | false =>
        have hb0 : (bits .and .u8 t 32 == 0) = true := by cases hx : (bits .and .u8 t 32 == 0) with | true => rfl | false => (rw [bne, hx] at hbits; cases hbits)
        have hR := H2.out h32 rfl rfl
        clear H0 H1 H2 H3 hbits
        by_cases hlk0 : 0 < lk
        · have hlz : (0 : Int) < (lk : Int) := by omega
          rw [if_pos hlk0] at hR
          subst hR
          go_enter Tryd.func20, Tryd.ntmps20
          go_wp2_with fail
          refine (HTG.out _).mono ?_
          rintro e w1 ⟨rfl, rfl⟩
          go_wp2
          go_ret2
          exact pr_no HBW.out
        · have hlz : ¬ (0 : Int) < (lk : Int) := by omega
          rw [if_neg hlk0] at hR
          have hbd := refBody_any t A la ca b W0 ht (HBY.out _ (Below.refl _ _)) hA1 hA2 (HT.out _ (Below.refl _ _))
          unfold bodyF at hbd
          by_cases hbb : bodyB t b = true
          · rw [if_pos hbb] at hR hbd
            have HBD := Lib.hid hbd
            have HR := Lib.hid hR
            clear hbd hR
            go_enter Tryd.func20, Tryd.ntmps20
            go_wp2_with fail
            refine (HTG.out _).mono ?_
            rintro e w1 ⟨rfl, rfl⟩
            go_wp2_with fail
            refine HBD.out.mono ?_
            rintro e w2 ⟨rfl, hb2⟩
            obtain ⟨k0, k1, k2⟩ := HBX.out _ hb2
            have hpt := refPut_all t A la ca b w2 ht (HBY.out _ hb2)
            have HPT := Lib.hid hpt
            clear hpt HBD
            go_wp2_with fail
            refine HPT.out.mono ?_
            rintro e w3 ⟨A3, c3, rfl, hy3, hc3, hf3, hb3⟩
            have hend := HBW.out.trans ((below_then hb2 hb3 (Nat.le_refl _)).mono HBW.out.size)
            have hfin : DPost w RES (.returned (.tuple #[.slice A3 (putF t b).1.length c3, .int .i64 (putF t b).2])) w3 := put_post HR.out hend hy3 hc3 hf3 (Nat.le_trans HBW.out.size hb2.size)
            have HF := Lib.hid hfin
            obtain ⟨xx, hxx⟩ : ∃ x, (putF t b).1.length = x := ⟨_, rfl⟩
            obtain ⟨er, her⟩ : ∃ x, (putF t b).2 = x := ⟨_, rfl⟩
            rw [hxx, her] at HF ⊢
            clear hfin hend hy3 hc3 hf3 hb3 HPT hxx her
            go_wp2
            go_ret2
            exact HF.out
          · rw [if_neg hbb] at hR hbd
            subst hR
            have HBD := Lib.hid hbd
            clear hbd
            go_enter Tryd.func20, Tryd.ntmps20
            go_wp2_with fail
            refine (HTG.out _).mono ?_
            rintro e w1 ⟨rfl, rfl⟩
            go_wp2_with fail
            refine HBD.out.mono ?_
            rintro e w2 ⟨rfl, hb2⟩
            have hend := HBW.out.trans (hb2.mono HBW.out.size)
            clear HBD
            go_wp2
            go_ret2
            exact pr_no hend
      | true =>
        have hb0 : (bits .and .u8 t 32 == 0) = false := by cases hx : (bits .and .u8 t 32 == 0) with | false => rfl | true => (rw [bne, hx] at hbits; cases hbits)
        have hR := H3.out h32 rfl rfl
        clear H0 H1 H2 H3 hbits
        by_cases hla0 : 0 < la
        · have hlz : (0 : Int) < (la : Int) := by omega
          rw [if_pos hla0] at hR
          subst hR
          go_enter Tryd.func20, Tryd.ntmps20
          go_wp2_with fail
          refine (HTG.out _).mono ?_
          rintro e w1 ⟨rfl, rfl⟩
          go_wp2
          go_ret2
          exact pr_no HBW.out
        · have hlz : ¬ (0 : Int) < (la : Int) := by omega
          rw [if_neg hla0] at hR
          obtain ⟨Q, hQ⟩ : ∃ x, bytesL ks (deep + 1) [] = x := ⟨_, rfl⟩
          rw [hQ] at hR
          have HR := Lib.hid hR
          have HQ := Lib.hid hQ
          clear hR hQ
          go_enter Tryd.func20, Tryd.ntmps20
          go_wp2_with fail
          refine (HTG.out _).mono ?_
          rintro e w1 ⟨rfl, rfl⟩
          go_wp2_with fail
          clear j0 j1 j2 hW0 HTG
          go_loopg [7, 8, 9] (lk + 1) (fun gk s7 s8 s9 wx => ∃ (i : Nat) (bs : List (List Int)) (vs : List Value) (v7 v8 : Value), v7 = s7 ∧ v8 = s8 ∧ s9 = .int .i64 i ∧ i ≤ lk ∧ lk - i < gk ∧ bs.length = i ∧ bs.flatten.length ≤ i * 65539 ∧ Hid (bytesL (ks.drop i) (deep + 1) bs = Q) ∧ Hid (PInv W0 bs vs v7 v8 wx))
          case atStart => exact ⟨0, [], [], _, _, rfl, rfl, rfl, by omega, by omega, rfl, by simp, HQ, Lib.hid (PInv.start W0)⟩
          case round =>
            obtain ⟨i, bs, vs, v7, v8, rfl, rfl, rfl, hi, hgk, hbl, hfl, hq, hinv⟩ := hrel
            have hbel := hinv.out.bel
            obtain ⟨k0, k1, k2⟩ := HBX.out _ hbel
            have hbW : Below w.heap.size w wr := HBW.out.trans (hbel.mono HBW.out.size)
            by_cases hlt : i < lk
            · have hltz : (i : Int) < (lk : Int) := by omega
              obtain ⟨gk', rfl⟩ : ∃ g', gk = g' + 1 := ⟨gk - 1, by omega⟩
              have hix : i < ks.length := by rw [HLK.out]; exact hlt
              obtain ⟨g, off, rfl, hg, hBg, hks⟩ := HK3.out (by omega)
              obtain ⟨d0, d1, d2, p0, p1, p2, hd⟩ := (KidsC.below hbW hg hBg ks off hks).at i hix
              clear hks
              have ih := HK.out ks[i] (List.getElem_mem hix) B (.agg #[d0, d1, d2]) (deep + 1) wr (by omega) ⟨_, _, _, rfl, hd⟩ (HT.out _ hbel)
              rw [Int.natCast_add, show ((1 : Nat) : Int) = 1 from rfl] at ih
              have hst := bytes_drop (o := deep + 1) hix bs
              have hne := errW_ne (szN ks[i]) ks[i] (deep + 1)
              have hlen : ∀ b, writeF ks[i] (deep + 1) = .ok b → b.length ≤ 65539 ∧ 0 < b.length := fun b h => ⟨writeF_len h, writeF_pos h⟩
              obtain ⟨r, hr⟩ : ∃ x, writeF ks[i] (deep + 1) = x := ⟨_, rfl⟩
              rw [hr] at ih hst hlen
              have hne2 : ∀ e, r = .no e → e ≠ 0 := fun e h => hne e (Nat.le_refl _) (hr.trans h)
              have hq2 := hq.out
              rw [hst] at hq2
              have IH := Lib.hid ih
              have Q2 := Lib.hid hq2
              have HNE := Lib.hid hne2
              have HLEN := Lib.hid hlen
              have hwd : IntKind.i64.wrap ((deep : Int) + 1) = (deep : Int) + 1 := IntWalk.i64_in _ (by omega)
              clear ih hq2 hne hne2 hlen hr hst hd hq
              go_wp2_with fail
              refine IH.out.mono ?_
              rintro e w2 ⟨hb2, hpost⟩
              have hbel2 := below_then hbel hb2 (Nat.le_refl _)
              have HINV2 := Lib.hid (hinv.out.below hb2)
              have hown7 := hinv.out.row
              have hown8 := hinv.out.own
              obtain ⟨m0, m1, m2⟩ := HBX.out _ hbel2
              cases r with
              | no er =>
                obtain ⟨Ae, ce, rfl⟩ := hpost
                have her := HNE.out er rfl
                have herb : (er == 0) = false := by simpa using her
                have hQe : Q = (none, er) := Q2.out.symm
                have hE : RES = .no er := by have := HR.out; rw [hQe] at this; exact this
                have hend := HBW.out.trans (hbel2.mono HBW.out.size)
                clear HR Q2 IH HINV2 hown7 hown8 hinv HBX HK HK3 HQ hQe
                subst hE
                go_wp2
                go_ret2
                exact pr_no hend
              | ok bb =>
                obtain ⟨A2, c2, rfl, hy2, hc2, hf2⟩ := hpost
                obtain ⟨hl2, hl3⟩ := HLEN.out bb rfl
                obtain ⟨g2, off2, hA2e, hg2, _⟩ := hy2.2.2 hl3
                have hfar : ∀ g off sp, A2 = some ⟨g, off, sp⟩ → some g ≠ v7.ownBlock ∧ some g ≠ v8.ownBlock ∧ g < w2.heap.size := fun g off sp e => by
                  have h1 := hf2 g off sp e
                  refine ⟨fun k => ?_, fun k => ?_, ?_⟩
                  · have := (own_lt hown7 k.symm).2; omega
                  · have := (own_lt hown8 k.symm).2; omega
                  · rw [hA2e] at e; cases e; exact hg2
                obtain ⟨w3, hw3⟩ : ∃ x, w2.alloc (.cells #[.slice A2 bb.length c2] 22) = x := ⟨_, rfl⟩
                have hn3 : Below w2.heap.size w2 w3 := by rw [← hw3]; exact below_new _ _
                have hc3 : w3.cell? ⟨w2.heap.size, 0, none⟩ = some (.slice A2 bb.length c2) := by rw [← hw3, World.cell?_alloc_mark]; rfl
                have hb3 : W0.heap.size ≤ w3.heap.size := by have := hbel2.size; have := hn3.size; omega
                obtain ⟨v7', w4, hrun7, o7, g7, b7⟩ := app_row w3 W0.heap.size v7 bs.length vs (own_below HINV2.out.row hn3) w2.heap.size (.slice A2 bb.length c2) hc3 rfl (by omega) hb3
                have o8 := HINV2.out.own8 hn3 g7
                have hy4 : Bys w4 A2 bb.length bb := (hy2.below hn3).kept g7 (fun g off e => (hfar g off none e).1)
                obtain ⟨v8', w5, hrun8, o8', g8, b8⟩ := app_many w4 W0.heap.size v8 bs.flatten.length (vals bs.flatten) o8 A2 bb.length c2 bb hy4 (by omega) (by have := g7.size; omega)
                have hinv' := HINV2.out.step hy2 hc2 hfar hw3.symm o7 g7 b7 o8' g8 b8
                have HI := Lib.hid hinv'
                have Q3 : Hid (bytesL (ks.drop (i + 1)) (deep + 1) (bs ++ [bb]) = Q) := Lib.hid Q2.out
                have hfl' : (bs ++ [bb]).flatten.length ≤ (i + 1) * 65539 := by
                  have e : (bs ++ [bb]).flatten = bs.flatten ++ bb := by simp
                  rw [e, List.length_append]; omega
                have hbl' : (bs ++ [bb]).length = i + 1 := by simp; omega
                clear hinv' o7 o8 o8' g7 g8 b7 b8 hy4 hy2 hc3 hfar Q2 IH HINV2 hown7 hown8 hinv hA2e hbel hbW hbel2 hb2 p0 p1 p2 k0 k1 k2 m0 m1 m2 hfl hbl hn3
                go_upto_region 23 with (fail)
                go_upto_region 24 with (at_builtin; refine wpl_append rfl (.tmp 68) (.tmp 70) 54 rfl _ _ _ rfl rfl hrun7 ?_)
                go_wp2_with (at_builtin; refine wpl_append rfl (.tmp 72) (.tmp 73) 22 rfl _ _ _ rfl rfl hrun8 ?_)
                go_roundg gk'
                case measure => omega
                case rel => exact ⟨i + 1, _, _, _, _, rfl, rfl, by go_num, by omega, by omega, hbl', hfl', Q3, HI⟩
            · have hltz : ¬ (i : Int) < (lk : Int) := by omega
              have hQe : Q = (some bs, 0) := by
                rw [← hq.out, List.drop_eq_nil_of_le (by have := HLK.out; omega)]
                unfold bytesL; rfl
              have hR := HR.out
              rw [hQe] at hR
              simp only at hR
              obtain ⟨L, cl, hv7, hLc, hLm, hbss⟩ := hinv.out.reads
              have hris := rising_any L bs.length cl bs wr hbss hLc hLm
              obtain ⟨A8, c8, hv8, hA8c, hA8m, _⟩ := own_shape hinv.out.own
              have hby8 : Bys wr A8 bs.flatten.length bs.flatten := Bys.own (by rw [← hv8]; exact hinv.out.own) hinv.out.fit
              have hpt := fun W (hW : Below wr.heap.size wr W) => refPut_all t A8 bs.flatten.length c8 bs.flatten W ht (hby8.below hW)
              subst hv7 hv8
              have HPT := Lib.hid hpt
              obtain ⟨fl, hfl2⟩ : ∃ x, bs.flatten = x := ⟨_, rfl⟩
              rw [hfl2] at hR HPT
              rw [hfl2]
              obtain ⟨rs, hrs⟩ : ∃ x, risingB bs = x := ⟨_, rfl⟩
              rw [hrs] at hR hris
              obtain ⟨nb, hnb⟩ : ∃ x, bs.length = x := ⟨_, rfl⟩
              rw [hnb] at hris
              rw [hnb]
              have HRIS := Lib.hid hris
              have HR2 := Lib.hid hR
              clear hris hR hpt hby8 hbss hq hinv hQe HR HQ HK HK3 hfl2 hrs hnb hbl hfl hLc hLm hA8c hA8m
              by_cases h49 : t = 49
              · subst h49
                go_wp2_with fail
                refine HRIS.out.mono ?_
                rintro e w6 ⟨rfl, hb6⟩
                have hbel6 := below_then hbel hb6 (Nat.le_refl _)
                obtain ⟨m0, m1, m2⟩ := HBX.out _ hbel6
                have hend6 := HBW.out.trans (hbel6.mono HBW.out.size)
                cases rs with
                | false =>
                  have hE : RES = .no 42 := HR2.out.trans (if_pos ⟨by first | rfl | trivial, by first | rfl | trivial⟩)
                  clear HR2 HPT HRIS HBX
                  subst hE
                  go_wp2
                  go_ret2
                  exact pr_no hend6
                | true =>
                  have hE : RES = putW 49 fl := HR2.out.trans (if_neg (fun h => by cases h.2))
                  have HE := Lib.hid hE
                  have HPT2 := Lib.hid (HPT.out _ hb6)
                  clear HR2 HPT HRIS hE
                  go_wp2_with fail
                  refine HPT2.out.mono ?_
                  rintro e w7 ⟨A7, c7, rfl, hy7, hc7, hf7, hb7⟩
                  have hend7 := HBW.out.trans ((below_then hbel6 hb7 (Nat.le_refl _)).mono HBW.out.size)
                  have hfin : DPost w RES (.returned (.tuple #[.slice A7 (putF 49 fl).1.length c7, .int .i64 (putF 49 fl).2])) w7 := put_post HE.out hend7 hy7 hc7 hf7 (Nat.le_trans HBW.out.size hbel6.size)
                  have HF := Lib.hid hfin
                  obtain ⟨xx, hxx⟩ : ∃ x, (putF 49 fl).1.length = x := ⟨_, rfl⟩
                  obtain ⟨er, her⟩ : ∃ x, (putF 49 fl).2 = x := ⟨_, rfl⟩
                  rw [hxx, her] at HF ⊢
                  clear hfin hend7 hy7 hc7 hf7 hb7 HPT2 hxx her
                  go_wp2
                  go_ret2
                  exact HF.out
              · have h49b : (t == 49) = false := by simpa using h49
                have hE : RES = putW t fl := HR2.out.trans (if_neg (fun h => h49 h.1))
                have HE := Lib.hid hE
                have HPT2 := Lib.hid (HPT.out _ (Below.refl _ _))
                clear HR2 HPT HRIS hE
                go_wp2_with fail
                refine HPT2.out.mono ?_
                rintro e w7 ⟨A7, c7, rfl, hy7, hc7, hf7, hb7⟩
                have hend7 := HBW.out.trans ((below_then hbel hb7 (Nat.le_refl _)).mono HBW.out.size)
                have hfin : DPost w RES (.returned (.tuple #[.slice A7 (putF t fl).1.length c7, .int .i64 (putF t fl).2])) w7 := put_post HE.out hend7 hy7 hc7 hf7 (Nat.le_trans HBW.out.size hbel.size)
                have HF := Lib.hid hfin
                obtain ⟨xx, hxx⟩ : ∃ x, (putF t fl).1.length = x := ⟨_, rfl⟩
                obtain ⟨er, her⟩ : ∃ x, (putF t fl).2 = x := ⟨_, rfl⟩
                rw [hxx, her] at HF ⊢
                clear hfin hend7 hy7 hc7 hf7 hb7 HPT2 hxx her
                go_wp2
                go_ret2
                exact HF.out
    · have hE := H1.out h32 htz
      have htb : (tg == 0) = false := by simpa using htz
      clear H0 H1 H2 H3 hbits
      subst hE
      go_enter Tryd.func20, Tryd.ntmps20
      go_wp2_with fail
      refine (HTG.out _).mono ?_
      rintro e w1 ⟨rfl, rfl⟩
      go_wp2
      go_ret2
      exact pr_no HBW.out
theorem prints_all : ∀ (N : Nat) (n : Nd), szN n ≤ N → N ≤ 20000 → Prints n
  | 0, .mk t b ks, h, _ => absurd h (by show ¬ szL ks + 1 ≤ 0; omega)
  | N + 1, .mk t b ks, h, hN => printed_step t b ks (by have h2 : szL ks + 1 ≤ N + 1 := h; omega) fun k hk => prints_all N k (by have h1 := szL_mem hk; have h2 : szL ks + 1 ≤ N + 1 := h; omega) (by omega)
set_option maxRecDepth 100000 in
theorem refPrint_any (n : Nd) (hsz : szN n ≤ 20000) (B : Nat → Prop) (v : Value) (w : World) (hv : NdV B w n v) (hT : Tabs w) :
    Calls Tryd.prog 12 #[v] w (DPost w (writeF n 0)) := by
  obtain ⟨c0, c1, c2, rfl, hnd⟩ := hv
  obtain ⟨tk, Ak, lak, cak, Kk, lkk, ckk, ec0, ec1, ec2⟩ := hnd.shape
  subst ec0 ec1 ec2
  have hbw := below_new w (.cells #[.int .u8 tk, .slice Ak lak cak, .slice Kk lkk ckk] 25)
  have hp := prints_all _ n (Nat.le_refl _) hsz B (.agg #[.int .u8 tk, .slice Ak lak cak, .slice Kk lkk ckk]) 0 (w.alloc (.cells #[.int .u8 tk, .slice Ak lak cak, .slice Kk lkk ckk] 25)) (by omega) ⟨_, _, _, rfl, NdC.below hbw _ _ _ _ hnd⟩ (hT.below hbw)
  obtain ⟨R, hR⟩ : ∃ x, writeF n 0 = x := ⟨_, rfl⟩
  rw [hR] at hp ⊢
  rw [show ((0 : Nat) : Int) = 0 from rfl] at hp
  have HP := Lib.hid hp
  clear hp hR hnd
  go_enter Tryd.func12, Tryd.ntmps12
  go_wp2_with fail
  refine HP.out.mono ?_
  rintro e w2 ⟨hb2, hpost⟩
  have hend := below_then hbw hb2 (by simp)
  clear HP
  cases R with
  | no er =>
    obtain ⟨Ae, ce, rfl⟩ := hpost
    clear hb2 hbw
    go_wp2
    go_ret2
    exact ⟨hend, Ae, ce, rfl⟩
  | ok b =>
    obtain ⟨A, c, rfl, h1, h2, h3⟩ := hpost
    have hz := hbw.size
    have HF : Hid (Bys w2 A b.length b ∧ (b.length ≤ c ∧ c ≤ maxLen) ∧ ∀ g off sp, A = some ⟨g, off, sp⟩ → w.heap.size ≤ g) := Lib.hid ⟨h1, h2, fun g off sp e => Nat.le_trans hz (h3 g off sp e)⟩
    clear h1 h2 h3 hb2 hbw hz
    go_wp2
    go_ret2
    exact ⟨hend, A, c, rfl, HF.out⟩
end Go.Proofs.YtaafgohaikhekaaDoor.ndc
