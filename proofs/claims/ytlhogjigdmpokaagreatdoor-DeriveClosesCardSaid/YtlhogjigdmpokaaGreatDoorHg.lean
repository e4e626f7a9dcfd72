/- The document's Closure. -/
import Derived.Test.YtlhogjigdmpokaaGreatDoorHf
namespace Go.Proofs.YtlhogjigdmpokaaGreatDoor.vtc
open Go.RowKit Go.Proofs.YtlhogjigdmpokaaGreatDoor.tlvc Go.Proofs.YtlhogjigdmpokaaGreatDoor.tmc Go.Proofs.YtlhogjigdmpokaaGreatDoor.rfc
set_option linter.unusedVariables false
/-- What the rounds hold fast. -/
structure Cls (L : List Tm) (xs : List Int) (hk : Nat) (W1 : World) (hb : List Bool) (i : Nat) (wx : World) : Prop where
  off : Off (fun g => g = hk) W1 wx
  tru : Tru wx hk 4 hb
  snd : Snd L (KofF xs) hb
  had : ∀ j, j < i → 0 ≤ xs.getD j 0 → xs.getD j 0 < (L.length : Int) → SB hb (xs.getD j 0).toNat
theorem Cls.below {L : List Tm} {xs : List Int} {hk : Nat} {W1 : World} {hb : List Bool} {i : Nat} {wx wy : World} (h : Cls L xs hk W1 hb i wx) (k : Below wx.heap.size wx wy) : Cls L xs hk W1 hb i wy :=
  ⟨h.off.trans (Off.of_below (S := fun g => g = hk) k) (fun _ _ h => h) (fun _ _ h => h), h.tru.below k, h.snd, h.had⟩
theorem Cls.skip {L : List Tm} {xs : List Int} {hk : Nat} {W1 : World} {hb : List Bool} {i : Nat} {wx : World} (h : Cls L xs hk W1 hb i wx) (hx : ¬ (0 ≤ xs.getD i 0 ∧ xs.getD i 0 < (L.length : Int))) : Cls L xs hk W1 hb (i + 1) wx :=
  ⟨h.off, h.tru, h.snd, fun j hj h0 h1 => by
    rcases Nat.lt_or_ge j i with hl | hl
    · exact h.had j hl h0 h1
    · obtain rfl : j = i := by omega
      exact absurd ⟨h0, h1⟩ hx⟩
theorem Cls.set {L : List Tm} {xs : List Int} {hk : Nat} {W1 : World} {hb : List Bool} {i k : Nat} {wx : World} (h : Cls L xs hk W1 hb i wx) (hi : i < xs.length) (hx : xs.getD i 0 = (k : Int)) (hkl : k < L.length) : Cls L xs hk W1 (hb.set k true) (i + 1) (wx.setCell ⟨hk, k, none⟩ (.bool true)) := by
  have hlb : k < hb.length := by rw [h.snd.len]; exact hkl
  refine ⟨h.off.trans (Off.set (S := fun g => g = hk) wx hk k (.bool true) rfl) (fun _ _ h => h) (fun _ _ h => h), h.tru.set hlb, h.snd.known hkl ?_, fun j hj h0 h1 => (SB.set hlb).2 ?_⟩
  · show (k : Int) ∈ xs
    rw [← hx, List.getD_eq_getElem?_getD, List.getElem?_eq_getElem hi]
    exact List.getElem_mem hi
  · rcases Nat.lt_or_ge j i with hl | hl
    · exact .inr (h.had j hl h0 h1)
    · obtain rfl : j = i := by omega
      rw [hx, Int.toNat_natCast]
      exact .inl rfl
theorem Cls.step {L : List Tm} {xs : List Int} {hk : Nat} {W1 : World} {hb hb2 : List Bool} {mo : Bool} {wx wy : World} (h : Cls L xs hk W1 hb xs.length wx) (ho : Off (fun g => g = hk) wx wy) (ht : Tru wy hk 4 hb2) (hs : Stp L hb hb2 mo L.length) : Cls L xs hk W1 hb2 xs.length wy :=
  ⟨h.off.trans ho (fun _ _ h => h) (fun _ _ h => h), ht, hs.snd _ h.snd, fun j hj h0 h1 => hs.up _ (h.had j hj h0 h1)⟩
theorem Cls.fin {L : List Tm} {xs : List Int} {hk : Nat} {W1 : World} {hb hb2 : List Bool} {wx : World} (h : Cls L xs hk W1 hb xs.length wx) (hs : Stp L hb hb2 false L.length) : toldB hb2 = clF L xs := by
  obtain ⟨e, h1, h2⟩ := hs.same rfl
  subst e
  refine told_cl h.snd.len fun n => h.snd.fin (fun n hn hkn => ?_) h1 (fun i m d k r hsi e2 hk2 => h2 i m d k r (by rw [← h.snd.len]; exact hsi.lt) hsi e2 hk2) n
  obtain ⟨j, hj, hjn⟩ := List.mem_iff_getElem.1 (show (n : Int) ∈ xs from hkn)
  have hg : xs.getD j 0 = (n : Int) := by rw [List.getD_eq_getElem?_getD, List.getElem?_eq_getElem hj, ← hjn]; rfl
  have := h.had j hj (by omega) (by omega)
  rwa [hg, Int.toNat_natCast] at this
set_option maxRecDepth 100000 in
set_option maxHeartbeats 32000000 in
theorem rclosure_any {Q : Nat → Prop} {rb : Nat} {ob : Option Nat} {L : List Tm} (w : World) (hV : RVl Q w rb ob L) (hQ : ∀ g, Q g → g < w.heap.size) (T : Tbl L) (A : Option Addr) (n c : Nat) (xs : List Int) (hX : Ins w A n xs) (hnc : n ≤ c) (hcm : c ≤ maxLen) :
    Calls Tryz.prog 12 #[.pointer (some ⟨rb, 0, none⟩), .slice A n c] w (InsPostF w (clF L xs)) := by
  obtain ⟨A9, c9, x0, x2, x33, _, _⟩ := hV.at
  obtain ⟨N, hNN⟩ : ∃ x, L.length = x := ⟨_, rfl⟩
  have hL4 := T.len
  rw [hNN] at hL4 x0 x2
  have hb1 := below_new w (.cells (madeCells #[.bool false] N) 4)
  have ht1 := Tru.made w 4 N
  have mk1 : ∀ W : World, (Instr.makeSlice 69 (.int .i64 (N : Int)) (.int .i64 (N : Int))).run Tryz.prog W = .ok (.slice (some ⟨W.heap.size, 0, none⟩) N N) (W.alloc (.cells (madeCells #[.bool false] N) 4)) := fun W => run_make_row' 69 4 (.bool false) 1 Tryz.underlying69 Tryz.infoBool rfl .i64 .i64 N (by omega) (by omega) W
  obtain ⟨W1, hW1⟩ : ∃ x, w.alloc (.cells (madeCells #[.bool false] N) 4) = x := ⟨_, rfl⟩
  rw [hW1] at hb1 ht1
  obtain ⟨hk, hhk⟩ : ∃ x, w.heap.size = x := ⟨_, rfl⟩
  have hst : Cls L xs hk W1 (List.replicate N false) 0 W1 := ⟨Off.refl _ _, by rw [← hhk]; exact ht1, by rw [← hNN]; exact Snd.start L _, fun j hj => absurd hj (Nat.not_lt_zero _)⟩
  have hV1 := hV.below hb1
  have hstep : ∀ (wx : World) (hb : List Bool) (i : Nat), Cls L xs hk W1 hb i wx → Calls Tryz.prog 33 #[.pointer (some ⟨rb, 0, none⟩), .slice (some ⟨hk, 0, none⟩) N N] wx (StpPost L hk hb wx) := fun wx hb i h => by
    have hQk : ¬ Q hk := fun e => by have := hQ _ e; omega
    have hMk : ¬ MutR rb ob hk := fun e => by have := hV.lt e; omega
    have := rstep_any hk hb wx (hV1.off h.off (fun g _ hg e => by
      have e : g = hk := e
      subst e
      exact hg.elim hQk hMk)) h.tru h.snd.len T hQk hMk
    rwa [h.snd.len, hNN] at this
  have hbel : ∀ (wx : World) (hb : List Bool) (i : Nat), Cls L xs hk W1 hb i wx → Below w.heap.size w wx := fun wx hb i h => hb1.trans (h.off.below (fun g hg => by have hg : g = hk := hg; omega) hb1.size)
  have hlen := hX.1
  have hc9 : c ≤ 9223372036854775807 := by unfold maxLen at hcm; omega
  have HST := Lib.hid hst
  have HSTEP := Lib.hid hstep
  have HBL := Lib.hid hbel
  have H0 := Lib.hid (And.intro T (And.intro hNN (And.intro hX (And.intro hlen hhk))))
  have HTL := Lib.hid T.len
  clear hV hQ T hX hb1 ht1 hV1 hst hstep hbel hlen hcm
  go_enter Tryz.func12, Tryz.ntmps12
  go_wp2_with fail
  (try rw [hW1])
  (try rw [hhk])
  clear mk1 x0
  go_loopg [6] (n + 1) (fun gk s6 wx => ∃ (i : Nat), s6 = .int .i64 (i : Nat) ∧ i ≤ n ∧ n - i < gk ∧ Hid (∃ hb, Cls L xs hk W1 hb i wx))
  case atStart => exact ⟨0, rfl, by omega, by omega, Lib.hid ⟨_, HST.out⟩⟩
  case round =>
    obtain ⟨i, rfl, hi, hgk, HR⟩ := hrel
    obtain ⟨hb, hcl⟩ := HR.out
    by_cases hlt : i < n
    · have hltz : (i : Int) < (n : Int) := by omega
      have hi0 : (0 : Int) ≤ (i : Int) := by omega
      obtain ⟨ga, rfl⟩ : ∃ g', gk = g' + 1 := ⟨gk - 1, by omega⟩
      have HF := Lib.hid (And.intro (show i + 1 ≤ n from hlt) (show n - (i + 1) < ga by omega))
      obtain ⟨b, off, rfl, _, hc⟩ := (H0.out.2.2.1.below (HBL.out wr hb i hcl)).2.2 (by omega)
      have y0 := hc i hlt
      obtain ⟨x, hx⟩ : ∃ x, xs.getD i 0 = x := ⟨_, rfl⟩
      rw [hx] at y0
      have HX := Lib.hid (And.intro hcl hx)
      clear hcl hc hx hgk hi HR
      by_cases h0 : 0 ≤ x
      · by_cases h1 : x < (N : Int)
        · obtain ⟨k, rfl⟩ : ∃ k : Nat, x = (k : Int) := ⟨x.toNat, by omega⟩
          have hkN : k < N := by omega
          have hset := HX.out.1.set (by rw [H0.out.2.2.2.1]; exact hlt) HX.out.2 (by rw [H0.out.2.1]; exact hkN)
          have z0 := HX.out.1.tru.at (i := k) (by rw [HX.out.1.snd.len, H0.out.2.1]; exact hkN)
          have f0 := HX.out.1.tru.warm k
          obtain ⟨bz, hbz⟩ : ∃ y, hb.getD k false = y := ⟨_, rfl⟩
          rw [hbz] at z0
          have HS := Lib.hid hset
          clear hset hbz
          go_wp2_with fail
          go_roundg ga
          case measure => omega
          case rel => exact ⟨i + 1, by go_num, HF.out.1, HF.out.2, Lib.hid ⟨_, HS.out⟩⟩
        · have HS := Lib.hid (HX.out.1.skip (by rw [HX.out.2, H0.out.2.1]; exact fun e => h1 e.2))
          go_wp2_with fail
          go_roundg ga
          case measure => omega
          case rel => exact ⟨i + 1, by go_num, HF.out.1, HF.out.2, Lib.hid ⟨_, HS.out⟩⟩
      · have HS := Lib.hid (HX.out.1.skip (by rw [HX.out.2, H0.out.2.1]; exact fun e => h0 e.1))
        go_wp2_with fail
        go_roundg ga
        case measure => omega
        case rel => exact ⟨i + 1, by go_num, HF.out.1, HF.out.2, Lib.hid ⟨_, HS.out⟩⟩
    · obtain rfl : n = i := by omega
      have hltz : ¬ (n : Int) < (n : Int) := by omega
      have hcl : Cls L xs hk W1 hb xs.length wr := by rw [H0.out.2.2.2.1]; exact hcl
      have HC := Lib.hid hcl
      have HLK := Lib.hid (show lackB hb + 1 ≤ N + 2 by have := lack_le hb; have := HC.out.snd.len; have := H0.out.2.1; omega)
      clear hcl hgk HR
      go_wp2_with fail
      go_loopg [7] (N + 2) (fun gk s7 wx => ∃ (mo : Bool), s7 = .bool mo ∧ Hid (∃ hb, Cls L xs hk W1 hb xs.length wx ∧ (mo = true → lackB hb + 1 ≤ gk) ∧ (mo = false → toldB hb = clF L xs)))
      case atStart => exact ⟨true, rfl, Lib.hid ⟨hb, HC.out, fun _ => HLK.out, fun e => by cases e⟩⟩
      case round =>
        obtain ⟨mo, rfl, HM⟩ := hrel
        obtain ⟨hb2, hcl, hlk, htd⟩ := HM.out
        cases mo
        · have hown0 : Hid (wr.ownsRow wr.heap.size 3 1 (.slice none 0 0) (tkB hb2 0).length (ivals (tkB hb2 0)) ∧ Below wr.heap.size wr wr) := Lib.hid ⟨World.ownsRow_nil _ _ _ _, Below.refl _ _⟩
          have HE := Lib.hid (And.intro hcl (And.intro (htd rfl) (show hb2.length = N by rw [hcl.snd.len]; exact H0.out.2.1)))
          obtain ⟨wz, hwz⟩ : ∃ y, wr = y := ⟨_, rfl⟩
          subst hwz
          clear hcl hlk htd HM
          go_wp2_with fail
          go_loopg [8, 9] (N + 1) (fun gk s8 s9 wx => ∃ (i : Nat) (v : Value), s8 = v ∧ s9 = .int .i64 (i : Nat) ∧ i ≤ N ∧ N - i < gk ∧ Hid (wx.ownsRow wr.heap.size 3 1 v (tkB hb2 i).length (ivals (tkB hb2 i)) ∧ Below wr.heap.size wr wx))
          case atStart => exact ⟨0, _, rfl, rfl, by omega, by omega, hown0⟩
          case round =>
            obtain ⟨i, v, hv0, rfl, hi, hgk, HR⟩ := hrel
            obtain rfl := hv0.symm
            clear hown0
            by_cases hlt : i < N
            · have hltz : (i : Int) < (N : Int) := by omega
              obtain ⟨gk', rfl⟩ : ∃ g', gk = g' + 1 := ⟨gk - 1, by omega⟩
              have HN2 := Lib.hid (And.intro (show i + 1 ≤ N from hlt) (show N - (i + 1) < gk' by omega))
              have hih : i < hb2.length := by rw [HE.out.2.2]; exact hlt
              have hst := tkB_step hb2 i hih
              have x0 := cell_on HR.out.2 (HE.out.1.tru.at hih)
              have hiz : (0 : Int) ≤ (i : Int) := by omega
              have hi9 : (i : Int) ≤ 4096 := by omega
              obtain ⟨bi, hbi⟩ : ∃ x, hb2.getD i false = x := ⟨_, rfl⟩
              rw [hbi] at hst x0
              cases bi
              · have hst2 : tkB hb2 (i + 1) = tkB hb2 i := by rw [hst]; simp
                have HS := Lib.hid hst2
                clear hst hst2 hgk hih hbi hi
                go_wp2_with fail
                go_roundg gk'
                case measure => omega
                case rel => exact ⟨i + 1, _, rfl, by go_num, HN2.out.1, HN2.out.2, Lib.hid ⟨by rw [HS.out]; exact HR.out.1, HR.out.2⟩⟩
              · have hst2 : tkB hb2 (i + 1) = tkB hb2 i ++ [(i : Int)] := by rw [hst]; simp
                have hle := tkB_len hb2 i
                obtain ⟨v', w', hrun, hown2, hgr, hob⟩ := app_int wr _ v _ _ HR.out.1 (i : Int) ⟨by omega, by omega⟩ (by omega) HR.out.2.size
                have hbel := app_int_below HR.out.1 HR.out.2.size hgr
                have hown3 := hown2
                rw [show (tkB hb2 i).length + 1 = (tkB hb2 (i + 1)).length by rw [hst2, List.length_append]; rfl, show ivals (tkB hb2 i) ++ ivals [(i : Int)] = ivals (tkB hb2 (i + 1)) by rw [hst2, ivals_app]] at hown3
                have HS := Lib.hid (And.intro hown3 (HR.out.2.trans hbel))
                clear hst hst2 hgk hih hbi hi hle hown2 hown3 hgr hob hbel
                go_wp2_with (at_builtin; refine wpl_append rfl (.tmp 56) (.tmp 58) 23 rfl _ _ _ rfl rfl hrun ?_)
                clear hrun x0
                go_wp2
                go_roundg gk'
                case measure => omega
                case rel => exact ⟨i + 1, v', rfl, by go_num, HN2.out.1, HN2.out.2, HS⟩
            · obtain rfl : N = i := by omega
              have hltz : ¬ (N : Int) < (N : Int) := by omega
              have hz : tkB hb2 N = clF L xs := by rw [← HE.out.2.2]; exact HE.out.2.1
              have hown := HR.out.1
              rw [hz] at hown
              have hbw := HBL.out _ _ _ HE.out.1
              have HF := Lib.hid (And.intro (own_base hown hbw.size) (hbw.trans (HR.out.2.mono hbw.size)))
              clear hz hown hbw hgk hi
              go_wp2_with fail
              go_ret
              exact ins_post HF.out.1 (fun x hx => by have := clF_bd hx; have := HTL.out; omega) HF.out.2
        · obtain ⟨gk', rfl⟩ : ∃ g', gk = g' + 1 := ⟨gk - 1, by have := hlk rfl; omega⟩
          have HCA := Lib.hid (HSTEP.out wr hb2 _ hcl)
          have HL := Lib.hid (And.intro hcl (hlk rfl))
          clear hcl hlk htd HM
          go_wp2_with fail
          refine HCA.out.mono ?_
          rintro e w5 ⟨hb3, mo3, rfl, ho5, ht5, hs5⟩
          have HS := Lib.hid (And.intro (HL.out.1.step ho5 ht5 hs5) (And.intro (show mo3 = true → lackB hb3 + 1 ≤ gk' from fun e => by have := hs5.less e; have := HL.out.2; omega) (show mo3 = false → toldB hb3 = clF L xs from fun e => by subst e; exact HL.out.1.fin hs5)))
          clear ho5 ht5 hs5 HCA
          go_wp2_with fail
          go_roundg gk'
          case measure => omega
          case rel => exact ⟨mo3, rfl, Lib.hid ⟨hb3, HS.out⟩⟩
end Go.Proofs.YtlhogjigdmpokaaGreatDoor.vtc
