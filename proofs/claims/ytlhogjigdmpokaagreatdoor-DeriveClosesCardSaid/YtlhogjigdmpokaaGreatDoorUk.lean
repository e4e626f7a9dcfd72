/- The live question of layer 7's laws; both vaults with terms; calls within a law. Ends of layer 7's laws, plain. -/
import Derived.Test.YtlhogjigdmpokaaGreatDoorUj
import Derived.Test.YtlhogjigdmpokaaGreatDoorUg
import Derived.Lib.SlBytesConst
namespace Go.Proofs.YtlhogjigdmpokaaGreatDoor.vtc
open Go.RowKit Go.Proofs.YtlhogjigdmpokaaGreatDoor.tlvc Go.Proofs.YtlhogjigdmpokaaGreatDoor.tmc
set_option linter.unusedVariables false
/-- A vault within a law. -/
structure Vat (w0 : World) (vb mb : Nat) (ob : Option Nat) (L : List Tm) (wx : World) : Prop where
  vlt : Vlt (fun g => w0.heap.size ≤ g) wx vb mb ob L
  sz : ∀ x ∈ L, szT x ≤ 4096
  bel : Below w0.heap.size w0 wx
section
variable {w0 : World} {vb mb : Nat} {ob : Option Nat} {L : List Tm} {wx : World}
theorem Vat.below (h : Vat w0 vb mb ob L wx) {wy : World} (hb : Below wx.heap.size wx wy) : Vat w0 vb mb ob L wy := ⟨h.vlt.below hb, h.sz, blw h.bel hb⟩
theorem Vat.good (h : Vat w0 vb mb ob L wx) : Good L := ⟨h.vlt.once, h.vlt.closed, h.vlt.right, h.sz, h.vlt.len⟩
theorem Vat.ok (h : Vat w0 vb mb ob L wx) (ht : txc.Tab w0.heap.size w0) : Vok (fun g => w0.heap.size ≤ g) w0.heap.size vb mb ob L wx := ⟨h.vlt, h.sz, ht.on h.bel, h.bel.size, fun g hg => h.vlt.all g hg⟩
theorem Vat.after (h : Vat w0 vb mb ob L wx) {r : Int × Int × List Tm} {e : Ending} {w' : World} (hp : InternPost (fun g => w0.heap.size ≤ g) vb mb ob wx r e w') (hg : Good r.2.2) : ∃ ob', e = .returned (.tuple #[.int .i64 r.1, .int .i64 r.2.1]) ∧ Vat w0 vb mb ob' r.2.2 w' := by
  obtain ⟨ob', he, h1, h2, h3⟩ := hp
  exact ⟨ob', he, h1.mono fun g hg => hg.elim id fun e => Nat.le_trans h.bel.size e, hg.size, h.bel.trans (h3.below (fun g hg => h.vlt.all g hg) h.bel.size)⟩
theorem Vat.far (h : Vat w0 vb mb ob L wx) {g : Nat} (hg : g < w0.heap.size) : ¬ Mut vb mb ob g := fun hm => by have := h.vlt.all g hm; omega
theorem Vat.near (h : Vat w0 vb mb ob L wx) {g : Nat} (hg : wx.heap.size ≤ g) : ¬ Mut vb mb ob g := fun hm => by have := h.vlt.lt hm; omega
theorem Vat.exp (h : Vat w0 vb mb ob L wx) (ht : txc.Tab w0.heap.size w0) (key : Int) (hkey : I64 key) {k e : Int} {L' : List Tm} (hin : ofF L 7 key [] = (k, e, L')) :
    Calls Tryz.prog 23 #[.pointer (some ⟨vb, 0, none⟩), .int .i64 key] wx fun en w' => ∃ ob', en = .returned (.tuple #[.int .i64 k, .int .i64 e]) ∧ Vat w0 vb mb ob' L' w' := by
  refine (exp_any (h.ok ht) key hkey).mono ?_
  intro en w' hp
  rw [hin] at hp
  have hg := (good_of h.good 7 key []).1
  rw [hin] at hg
  exact h.after hp hg
theorem Vat.seal (h : Vat w0 vb mb ob L wx) (ht : txc.Tab w0.heap.size w0) (key : Int) (hkey : I64 key) (D : Option Addr) (la ca : Nat) (d : List Int) (hd : Bys wx D la d) (hlc : la ≤ ca) (hcm : ca ≤ maxLen) (hD : 0 < la → ∀ g off sp, D = some ⟨g, off, sp⟩ → ¬ Mut vb mb ob g) {k e : Int} {L' : List Tm} (hin : ofF L 4 key d = (k, e, L')) :
    Calls Tryz.prog 21 #[.pointer (some ⟨vb, 0, none⟩), .int .i64 key, .slice D la ca] wx fun en w' => ∃ ob', en = .returned (.tuple #[.int .i64 k, .int .i64 e]) ∧ Vat w0 vb mb ob' L' w' := by
  refine (seal_any (h.ok ht) key hkey D la ca d hd hlc hcm hD).mono ?_
  intro en w' hp
  rw [hin] at hp
  have hg := (good_of h.good 4 key d).1
  rw [hin] at hg
  exact h.after hp hg
theorem Vat.pow (h : Vat w0 vb mb ob L wx) (ht : txc.Tab w0.heap.size w0) (b x : Int) (hb : I64 b) (hx : I64 x) {k e : Int} {L' : List Tm} (hin : powL L b x = (k, e, L')) :
    Calls Tryz.prog 24 #[.pointer (some ⟨vb, 0, none⟩), .int .i64 b, .int .i64 x] wx fun en w' => ∃ ob', en = .returned (.tuple #[.int .i64 k, .int .i64 e]) ∧ Vat w0 vb mb ob' L' w' := by
  refine (cpow_any (h.ok ht) b x hb hx).mono ?_
  intro en w' hp
  rw [hin] at hp
  have hg := (good_pow h.good b x).1
  rw [hin] at hg
  exact h.after hp hg
end
theorem of_i64 {L L1 : List Tm} {op key k e : Int} {d : List Int} (hL : Good L) (h : ofF L op key d = (k, e, L1)) : I64 k := by
  by_cases he : e = 0
  · subst he
    obtain ⟨t, _, _, h3, _, hg⟩ := of_ok hL h
    obtain ⟨i, rfl, hi⟩ := hand_some h3
    have := (List.getElem?_eq_some_iff.1 hi).1
    have := hg.len
    unfold I64
    omega
  · cases hk : hand L key with
    | none => rw [of_none hk] at h; cases h; unfold I64; omega
    | some t =>
      rw [of_some hk] at h
      obtain ⟨rfl, _⟩ := intern_err h he
      unfold I64
      omega
def tk : Tm := .mk 4 0 [97] [ta]
theorem tk_right : rightF tk 0 = true := by
  unfold tk
  rw [right_mk]
  refine ⟨by omega, by decide, fun k hk => ?_, by simp⟩
  rw [List.mem_singleton.1 hk]
  exact ta_right 1 (by omega)
theorem tk_size : szT tk = 2 := by
  unfold tk ta
  rw [szT_kids, szTs_two, szT_kids]
  rfl
theorem ta_intern : internV ta [] = (0, 0, [ta]) := by
  have e1 : putV ta [] = [ta] := by
    unfold ta
    rw [putV_new (by simp), putsV_nil]
    rfl
  rw [intern_new (ta_right 0 (by omega)) rfl (by unfold ta; rw [szT_kids]; decide), e1]
  rfl
theorem tk_ne : ta ≠ tk := fun e => by unfold ta tk at e; simp only [Tm.mk.injEq] at e; omega
theorem tk_seal : ofF [ta] 4 0 [97] = (1, 0, [ta, tk]) := by
  rw [of_some (t := ta) rfl]
  show internV tk [ta] = _
  have hn : tk ∉ [ta] := fun h => tk_ne (List.mem_singleton.1 h).symm
  have e : putV tk [ta] = [ta, tk] := by
    show putV (.mk 4 0 [97] [ta]) [ta] = _
    rw [putV_new hn, putsV_cons, putsV_nil, putV_had (by simp)]
    rfl
  rw [intern_new tk_right (findV_none.2 hn) (by rw [tk_size]; decide), e]
  rfl
theorem tk_open : openF [ta, tk] 0 1 = some [97] := by
  rw [open_of (k := ta) (x := ta) (o := 4) (m := 0) (d := [97]) (xs := []) rfl rfl, if_pos ⟨rfl, alike_iff.2 rfl⟩]
theorem TW.intern0 {w : World} {vb mb : Nat} {ob : Option Nat} {rb : Nat} {od : Option Nat} {Lp Ld : List Tm} {wx : World} (h : TW w (fun _ => False) vb mb ob rb od Lp Ld wx) {t : Tm} {v : Value} (hv : TmV (fun g => g < w.heap.size) wx t v) (ht : txc.Tab w.heap.size w) (hsz : szT t ≤ 10000) {k e : Int} {L2 : List Tm} (hin : internV t Lp = (k, e, L2)) :
    Calls Tryz.prog 26 #[.pointer (some ⟨vb, 0, none⟩), v] wx fun en w' => ∃ ob', en = .returned (.tuple #[.int .i64 k, .int .i64 e]) ∧ TW w (fun _ => False) vb mb ob' rb od L2 Ld w' := by
  refine (intern_any _ _ w.heap.size vb mb ob Lp t v wx h.vlt hv (fun g hg hm => by have := (h.vlt.all g hm).1; omega) (ht.on h.bel) h.bel.size (fun g hg => (h.vlt.all g hg).1) hsz).mono ?_
  rintro en w' ⟨ob', rfl, h1, h2, h3⟩
  rw [hin] at h1 ⊢
  refine ⟨ob', rfl, ⟨h1.mono fun g hg => ?_, h.rvl.off h3 fun g hl hg hm => ?_, h.rx, h.bel.trans (h3.below (fun g hg => (h.vlt.all g hg).1) h.bel.size)⟩⟩
  · rcases hg with hg | hg
    · exact hg
    · exact ⟨Nat.le_trans h.bel.size hg, fun hm => by have := h.rvl.lt hm; omega, id⟩
  · have := h.vlt.all g hm
    rcases hg with hg | hg
    · omega
    · exact this.2.1 hg
theorem TW.rintern0 {w : World} {vb mb : Nat} {ob : Option Nat} {rb : Nat} {od : Option Nat} {Lp Ld : List Tm} {wx : World} (h : TW w (fun _ => False) vb mb ob rb od Lp Ld wx) {t : Tm} {v : Value} (hv : TmV (fun g => g < w.heap.size) wx t v) (hsz : szT t ≤ 10000) {k e : Int} {L2 : List Tm} (hin : internV t Ld = (k, e, L2)) :
    Calls Tryz.prog 28 #[.pointer (some ⟨rb, 0, none⟩), v] wx fun en w' => ∃ od', en = .returned (.tuple #[.int .i64 k, .int .i64 e]) ∧ TW w (fun _ => False) vb mb ob rb od' Lp L2 w' := by
  refine (h.rintern (fun g hg => hg.elim) hv hsz).mono ?_
  rintro en w' ⟨od', rfl, h1, _⟩
  rw [hin] at h1 ⊢
  exact ⟨od', rfl, h1⟩
def BothPost (w : World) (e : Ending) (w' : World) : Prop := (e = .returned (.tuple #[.pointer none, .pointer none, .bool false]) ∧ Below w.heap.size w w') ∨ ∃ vb mb ob rb od L, e = .returned (.tuple #[.pointer (some ⟨vb, 0, none⟩), .pointer (some ⟨rb, 0, none⟩), .bool true]) ∧ TW w (fun _ => False) vb mb ob rb od L L w' ∧ ∀ t ∈ L, szT t ≤ 4096
theorem TW.good {w : World} {X : Nat → Prop} {vb mb : Nat} {ob : Option Nat} {rb : Nat} {od : Option Nat} {L Ld : List Tm} {wx : World} (h : TW w X vb mb ob rb od L Ld wx) (hs : ∀ t ∈ L, szT t ≤ 4096) : Good L := ⟨h.vlt.once, h.vlt.closed, h.vlt.right, hs, h.vlt.len⟩
theorem TW.vat {w : World} {X : Nat → Prop} {vb mb : Nat} {ob : Option Nat} {rb : Nat} {od : Option Nat} {L Ld : List Tm} {wx : World} (h : TW w X vb mb ob rb od L Ld wx) (hs : ∀ t ∈ L, szT t ≤ 4096) : Vat w vb mb ob L wx := ⟨h.vlt.mono fun g hg => hg.1, hs, h.bel⟩
set_option maxRecDepth 100000 in
set_option maxHeartbeats 8000000 in
theorem both_any (A : Option Addr) (len cap : Nat) (xs : List Tm) (w : World) (he : xs.length = len) (hw : Tms w A xs) (hl : len ≤ cap) (hm : cap ≤ maxLen) (ht : txc.Tab w.heap.size w) :
    Calls Tryz.prog 9 #[.slice A len cap] w (BothPost w) := by
  have hm9 : cap ≤ 9223372036854775807 := by unfold maxLen at hm; omega
  have HT := Lib.hid ht
  have HW := Lib.hid hw
  have HE := Lib.hid he
  clear ht hw he hm
  by_cases hlen : len ≤ 100
  · have hlz : ¬ (100 : Int) < (len : Int) := by omega
    go_enter Tryz.func9, Tryz.ntmps9
    go_wp2_with (go_at_call 25; refine (new_any w).mono ?_; rintro e wv ⟨rfl, hV, hbv, hsv⟩; have HTW := Lib.hid (TW.start hbv hV); clear hV hbv hsv)
    obtain ⟨W3, hW3⟩ : ∃ x, wv.alloc (.cells #[.slice none 0 0] 60) = x := ⟨_, rfl⟩
    rw [hW3] at HTW ⊢
    obtain ⟨rb, hrb⟩ : ∃ x, wv.heap.size = x := ⟨_, rfl⟩
    obtain ⟨vb, hvb⟩ : ∃ x, w.heap.size + 1 = x := ⟨_, rfl⟩
    obtain ⟨mb, hmb⟩ : ∃ x, w.heap.size = x := ⟨_, rfl⟩
    rw [hrb] at HTW ⊢
    rw [hvb] at HTW ⊢
    have HTW : Hid (TW w (fun _ => False) vb mb none rb none [] [] W3) := Lib.hid (by rw [← hmb]; exact HTW.out)
    clear hvb hmb hrb hW3
    go_loopg [7] (len + 1) (fun gk s7 wx => ∃ (i : Nat) (ob od : Option Nat) (L : List tmc.Tm), s7 = .int .i64 i ∧ i ≤ len ∧ len - i < gk ∧ Hid (TW w (fun _ => False) vb mb ob rb od L L wx ∧ ∀ t ∈ L, tmc.szT t ≤ 4096))
    case atStart => exact ⟨0, none, none, [], rfl, by omega, by omega, Lib.hid ⟨HTW.out, fun t ht => by simp at ht⟩⟩
    case round =>
      obtain ⟨i, ob, od, L, rfl, hi, hgk, HI⟩ := hrel
      by_cases hlt : i < len
      · have hltz : (i : Int) < (len : Int) := by omega
        obtain ⟨gk', rfl⟩ : ∃ g', gk = g' + 1 := ⟨gk - 1, by omega⟩
        have HN := Lib.hid (And.intro (show i + 1 ≤ len from hlt) (show len - (i + 1) < gk' by omega))
        obtain ⟨t, ht⟩ : ∃ t, xs[i]? = some t := ⟨_, List.getElem?_eq_getElem (by rw [HE.out]; exact hlt)⟩
        obtain ⟨g, off, to, tm, tA, tla, tca, tK, tlk, tck, rfl, hat⟩ := tms_at HW.out ht
        have HAT := Lib.hid hat
        obtain ⟨e0, e1, e2, e3, hv⟩ := hat wr HI.out.1.bel
        have hp := parts_of _ t (Nat.le_refl _) (.agg #[.int .i64 to, .int .i64 tm, .slice tA tla tca, .slice tK tlk tck]) 300 wr hv (by omega) (by omega)
        have hpt := partsF_true _ t (Nat.le_refl _) 300 (by omega)
        have hpb := partsF_bd _ t (Nat.le_refl _) 300 (by omega)
        obtain ⟨p2, hpp⟩ : ∃ x, partsF t 300 = x := ⟨_, rfl⟩
        rw [hpp] at hp hpt hpb
        have HP := Lib.hid hp
        clear hp hpp hat hv hgk ht
        by_cases hbig2 : 300 < p2
        · clear hpt
          go_wp2_with (go_at_call 27; refine HP.out.mono ?_; rintro e wq ⟨rfl, hbq⟩; have HBQ := Lib.hid hbq; clear hbq)
          go_ret3
          exact .inl ⟨rfl, blw HI.out.1.bel HBQ.out⟩
        · have hsz : szT t ≤ 300 := by have := hpt (by omega); omega
          have HSZ := Lib.hid hsz
          obtain ⟨k, hk⟩ : ∃ x, (internV t L).1 = x := ⟨_, rfl⟩
          obtain ⟨ee, hee⟩ : ∃ x, (internV t L).2.1 = x := ⟨_, rfl⟩
          obtain ⟨L2, hL2⟩ : ∃ x, (internV t L).2.2 = x := ⟨_, rfl⟩
          have hin : internV t L = (k, ee, L2) := by rw [← hk, ← hee, ← hL2]
          have HINE := Lib.hid hin
          clear hpt hpb hsz hk hee hL2 hin
          go_wp2_with fail
          refine HP.out.mono ?_
          rintro e wq ⟨rfl, hbq⟩
          have hq := HI.out.1.below hbq
          clear e0 e1 e2 e3 HP hbq
          obtain ⟨e0, e1, e2, e3, hv⟩ := HAT.out wq hq.bel
          have HQ := Lib.hid hq
          have HI1 := Lib.hid (hq.intern0 hv HT.out (by have := HSZ.out; omega) HINE.out)
          clear hq hv
          go_wp2_with (go_at_call 26; refine HI1.out.mono ?_; rintro e w6 ⟨ob2, rfl, htw6⟩; clear e0 e1 e2 e3; obtain ⟨e0, e1, e2, e3, hv⟩ := HAT.out w6 htw6.bel; have HI2 := Lib.hid (htw6.rintern0 hv (by have := HSZ.out; omega) HINE.out); clear hv htw6)
          clear HI1 HQ
          refine HI2.out.mono ?_
          rintro e w7 ⟨od2, rfl, htw7⟩
          have HTW7 := Lib.hid (And.intro htw7 (show ∀ s ∈ L2, szT s ≤ 4096 by
            have hg := (good_intern (HI.out.1.good HI.out.2) t).1
            rw [HINE.out] at hg
            exact hg.size))
          have hkk : (k != k) = false := by simp
          have hee : (ee != ee) = false := by simp
          clear htw7 e0 e1 e2 e3 HI2 HI HINE
          go_wp2
          go_roundg gk'
          case measure => omega
          case rel => exact ⟨i + 1, ob2, od2, L2, by go_num, HN.out.1, HN.out.2, HTW7⟩
      · obtain rfl : len = i := by omega
        have hltz : ¬ (len : Int) < (len : Int) := by omega
        clear hgk
        go_wp2
        go_ret3
        exact .inr ⟨vb, mb, ob, rb, od, L, rfl, HI.out.1, HI.out.2⟩
  · have hlz : (100 : Int) < (len : Int) := by omega
    go_enter Tryz.func9, Tryz.ntmps9
    go_wp2_with (go_at_call 25; refine (new_any w).mono ?_; rintro e wv ⟨rfl, hV, hbv, hsv⟩; have HBV := Lib.hid (hbv.trans ((below_new wv (.cells #[.slice none 0 0] 60)).mono hbv.size)); clear hV hbv hsv)
    go_ret3
    exact .inl ⟨rfl, HBV.out⟩
end Go.Proofs.YtlhogjigdmpokaaGreatDoor.vtc
namespace Go.Proofs.YtlhogjigdmpokaaGreatDoor.vtc
open Go.RowKit Go.Proofs.YtlhogjigdmpokaaGreatDoor.tlvc Go.Proofs.YtlhogjigdmpokaaGreatDoor.tmc
set_option linter.unusedVariables false
theorem powers_ok {L L1 L2 L4 L5 L6 : List Tm} {x y p q r s g m : Int} (hL : Good L) (h1 : ofF L 7 x [] = (p, 0, L1)) (h2 : ofF L1 7 y [] = (q, 0, L2)) (hp : L2 <+: L4) (hg : Good L4) (h5 : powL L4 p y = (r, g, L5)) (h6 : powL L5 q x = (s, m, L6)) : (g = 0 → m = 0 → r = s) ∧ (p == q) = (x == y) := by
  obtain ⟨t, k1, k2, k3, k4, k5⟩ := of_ok hL h1
  obtain ⟨u, j1, j2, j3, j4, j5⟩ := of_ok k5 h2
  have hx := hand_pre hp (hand_pre j4 k2)
  have hpp := hand_pre hp (hand_pre j4 k3)
  have hy := hand_pre hp j2
  have hq := hand_pre hp j3
  refine ⟨fun e1 e2 => ?_, ?_⟩
  · subst e1 e2
    exact pow_same hg hpp hq hx hy h5 h6
  · rw [Bool.eq_iff_iff, beq_iff_eq, beq_iff_eq]
    constructor
    · intro e
      rw [e, hq] at hpp
      have := Option.some.inj hpp
      simp only [Tm.mk.injEq, List.cons.injEq, and_true, true_and] at this
      exact hand_inj hg.once hx (by rw [← this]; exact hy)
    · intro e
      rw [e, hy] at hx
      have := Option.some.inj hx
      exact hand_inj hg.once hpp (by rw [← this]; exact hq)
theorem str_same {a b : List Int} (ha : Fit a) (hb : Fit b) : ((strOfNums a).toList == (strOfNums b).toList) = decide (a = b) := by
  have h : sameB a b = decide (a = b) := by rw [Bool.eq_iff_iff, sameB_iff ha hb, decide_eq_true_iff]
  exact h
theorem beq_dec (a b : Int) : (a == b) = decide (a = b) := by rw [Bool.eq_iff_iff]; simp
end Go.Proofs.YtlhogjigdmpokaaGreatDoor.vtc
