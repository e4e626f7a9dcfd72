/- What is done with keys: the program's calls that answer a handle. -/
import Derived.Test.YtfmdmahlljbbmaaGreatDoorCc
namespace Go.Proofs.YtfmdmahlljbbmaaGreatDoor.vtc
open Go.RowKit Go.Proofs.YtfmdmahlljbbmaaGreatDoor.tlvc Go.Proofs.YtfmdmahlljbbmaaGreatDoor.tmc
set_option linter.unusedVariables false
/-- A vault in use. -/
structure Vok (S : Nat → Prop) (base vb mb : Nat) (ob : Option Nat) (L : List Tm) (w : World) : Prop where
  vlt : Vlt S w vb mb ob L
  sz : ∀ x ∈ L, szT x ≤ 4096
  tab : txc.Tab base w
  lo : base ≤ w.heap.size
  mlo : ∀ g, Mut vb mb ob g → base ≤ g
theorem Vok.below {S : Nat → Prop} {base vb mb : Nat} {ob : Option Nat} {L : List Tm} {w W : World} (h : Vok S base vb mb ob L w) (hb : Below w.heap.size w W) : Vok S base vb mb ob L W :=
  ⟨h.vlt.below hb, h.sz, h.tab.on (hb.mono h.lo), Nat.le_trans h.lo hb.size, h.mlo⟩
theorem handsF_sz {L : List Tm} (h : ∀ x ∈ L, szT x ≤ 4096) : ∀ {hs : List Int} {ts : List Tm}, handsF L hs = some ts → szTs ts ≤ 4096 * hs.length
  | [], ts, e => by
    unfold handsF at e
    cases e
    unfold szTs
    omega
  | n :: ns, ts, e => by
    unfold handsF at e
    cases h1 : hand L n with
    | none => rw [h1] at e; cases e
    | some t =>
      cases h2 : handsF L ns with
      | none => rw [h1, h2] at e; cases e
      | some us =>
        rw [h1, h2] at e
        cases e
        have h3 := handsF_sz h h2
        have h4 := h t (hand_mem h1)
        rw [szTs_two, List.length_cons]
        omega
theorem of_made (L : List Tm) (op key : Int) (d : List Int) : madeF L [key] (fun ts => some (.mk op 0 d ts)) = ofF L op key d := by
  cases h : hand L key with
  | none => rw [of_none h, made_none (by rw [handsF_one, h]; rfl)]
  | some t => rw [of_some h, made_some (ts := [t]) (by rw [handsF_one, h]; rfl) rfl]
theorem hash_made (L : List Tm) (d : List Int) : madeF L [] (fun ts => some (.mk 5 0 d ts)) = internV (.mk 5 0 d []) L := made_some (handsF_nil L) rfl
theorem atom_made (L : List Tm) (num : Int) : madeF L [] (fun _ => some (.mk 1 num [] [])) = internV (.mk 1 num [] []) L := made_some (handsF_nil L) rfl
theorem powF_sz {t x p : Tm} (h : powF t x = some p) : szT p = szT t + szT x := by
  unfold powF at h
  split at h
  · split at h
    · cases h
      obtain ⟨o, m, d, ks⟩ := t
      unfold pow0
      simp only [Tm.kids]
      rw [szT_kids, szT_kids, szTs_perm (putF_perm ks x), szTs_two]
      omega
    · cases h
  · cases h
def powT : List Tm → Option Tm
  | [s, t] => powF s t
  | _ => none
theorem pow_made (L : List Tm) (b x : Int) : madeF L [b, x] powT = powL L b x := by
  cases hb : hand L b with
  | none => rw [powL_none (.inl hb), made_none (by rw [handsF_two, hb])]
  | some s =>
    cases hx : hand L x with
    | none => rw [powL_none (.inr hx), made_none (by rw [handsF_two, hb, hx])]
    | some t =>
      have hh : handsF L [b, x] = some [s, t] := by rw [handsF_two, hb, hx]
      cases hp : powF s t with
      | none => rw [powL_kind hb hx hp, made_kind hh hp]
      | some p => rw [powL_some hb hx hp, made_some hh hp]
theorem made_put {S B : Nat → Prop} {base vb mb : Nat} {ob : Option Nat} {L : List Tm} {w : World} (hk : Vok S base vb mb ob L w) (op : Int) (ho : I64 op) (p q : Nat) (D : Option Addr) (la ca : Nat) (d : List Int) (A : Option Addr) (n c : Nat) (hs : List Int) (hi : Ins w A n hs) (hnc : n ≤ c) (hcm : c ≤ maxLen) (hn : n ≤ 2) (hB : ∀ g, B g → ¬ Mut vb mb ob g)
    (hp : w.cell? ⟨p, 0, none⟩ = some (.int .i64 op)) (hq : w.cell? ⟨q, 0, none⟩ = some (.slice D la ca)) (hd : Bys w D la d) (hlc : la ≤ ca) (hcm2 : ca ≤ maxLen) (hDB : 0 < la → ∀ g off sp, D = some ⟨g, off, sp⟩ → B g) :
    Calls Tryz.prog 31 #[.pointer (some ⟨vb, 0, none⟩), .func (.func 51) #[] #[.pointer (some ⟨p, 0, none⟩), .pointer (some ⟨q, 0, none⟩)], .slice A n c] w (InternPost S vb mb ob w (madeF L hs fun ts => some (.mk op 0 d ts))) := by
  refine made_any S B base vb mb ob L A n c hs 51 _ (fun ts => some (.mk op 0 d ts)) w hk.vlt hk.sz hi hnc hcm (by omega) hk.tab hk.lo hk.mlo hB (enters_of Tryz.func51 (by kernel_rfl) rfl) (fun ts A' c' W hW hh hl hz h1 h2 => ?_) (fun ts t hh e => ?_)
  · exact put1_any op ho p q D la ca d _ A' n c' ts W ((hW.cell (p := ⟨p, 0, none⟩) (block_lt_of_cell hp)).trans hp) ((hW.cell (p := ⟨q, 0, none⟩) (block_lt_of_cell hq)).trans hq) (hd.below hW) hlc hcm2 (fun hl g off sp e => .inl (hDB hl g off sp e)) (hz.mono fun g hg => .inr hg) hl h1 h2
  · cases e
    have h1 := handsF_sz hk.sz hh
    have h2 := hi.1
    rw [szT_kids]
    omega
/-- One handle, as the calls hand it on. -/
theorem ins_one (w : World) (x : Int) (hx : I64 x) : Ins (w.alloc (.cells #[.int .i64 x] 3)) (some ⟨w.heap.size, 0, none⟩) 1 [x] := by
  have h1 := heap_new_ w (.cells #[.int .i64 x] 3)
  refine ⟨rfl, fun y hy => by rw [List.mem_singleton.1 hy]; exact hx, fun _ => ⟨_, 0, rfl, by simp, fun j hj => ?_⟩⟩
  obtain rfl : j = 0 := by omega
  exact (Lib.cell_of_heap h1 0).trans rfl
theorem ins_two (w : World) (x y : Int) (hx : I64 x) (hy : I64 y) : Ins (w.alloc (.cells #[.int .i64 x, .int .i64 y] 3)) (some ⟨w.heap.size, 0, none⟩) 2 [x, y] := by
  have h1 := heap_new_ w (.cells #[.int .i64 x, .int .i64 y] 3)
  refine ⟨rfl, fun z hz => by rcases List.mem_cons.1 hz with rfl | hz; exact hx; rw [List.mem_singleton.1 hz]; exact hy, fun _ => ⟨_, 0, rfl, by simp, fun j hj => ?_⟩⟩
  match j, hj with
  | 0, _ => exact (Lib.cell_of_heap h1 0).trans rfl
  | 1, _ => exact (Lib.cell_of_heap h1 1).trans rfl
theorem exp_any {S : Nat → Prop} {base vb mb : Nat} {ob : Option Nat} {L : List Tm} {w : World} (hk : Vok S base vb mb ob L w) (key : Int) (hkey : I64 key) :
    Calls Tryz.prog 8 #[.pointer (some ⟨vb, 0, none⟩), .int .i64 key] w (InternPost S vb mb ob w (ofF L 7 key [])) := by
  have HM := Lib.hid fun (w1 : World) (p q : Nat) (hb1 : Below w.heap.size w w1) (hp : w1.cell? ⟨p, 0, none⟩ = some (.int .i64 7)) (hq : w1.cell? ⟨q, 0, none⟩ = some (.slice none 0 0)) => And.intro (hb1.trans ((below_new w1 (.cells #[.int .i64 key] 3)).mono hb1.size)) (made_put (B := fun g => ¬ Mut vb mb ob g) (hk.below (hb1.trans ((below_new w1 (.cells #[.int .i64 key] 3)).mono hb1.size))) 7 (by unfold I64; omega) p q none 0 0 [] _ 1 1 [key] (ins_one w1 key hkey) (Nat.le_refl _) (by unfold maxLen; omega) (by omega) (fun g hg => hg) (((below_new w1 _).cell (p := ⟨p, 0, none⟩) (block_lt_of_cell hp)).trans hp) (((below_new w1 _).cell (p := ⟨q, 0, none⟩) (block_lt_of_cell hq)).trans hq) (Bys.nil_ _ _) (Nat.le_refl _) (Nat.zero_le _) (fun h => absurd h (by omega)))
  rw [of_made] at HM
  clear hk hkey
  go_enter Tryz.func8, Tryz.ntmps8
  go_wp2_with (first | (go_at_call 33; refine (cput_any 7 none 0 0 _).mono ?_; rintro e w1 ⟨p, q, rfl, hp, hq, hb1⟩; have HM1 := Lib.hid (HM.out w1 p q hb1 hp hq); clear hp hq hb1) | (go_at_call 31; refine HM1.out.2.mono ?_; rintro e w4 hp; have HP := Lib.hid (InternPost.from HM1.out.1 hp); obtain ⟨ob', rfl, _⟩ := hp))
  go_ret2
  exact HP.out
theorem pub_any {S : Nat → Prop} {base vb mb : Nat} {ob : Option Nat} {L : List Tm} {w : World} (hk : Vok S base vb mb ob L w) (key : Int) (hkey : I64 key) :
    Calls Tryz.prog 12 #[.pointer (some ⟨vb, 0, none⟩), .int .i64 key] w (InternPost S vb mb ob w (ofF L 2 key [])) := by
  have HM := Lib.hid fun (w1 : World) (p q : Nat) (hb1 : Below w.heap.size w w1) (hp : w1.cell? ⟨p, 0, none⟩ = some (.int .i64 2)) (hq : w1.cell? ⟨q, 0, none⟩ = some (.slice none 0 0)) => And.intro (hb1.trans ((below_new w1 (.cells #[.int .i64 key] 3)).mono hb1.size)) (made_put (B := fun g => ¬ Mut vb mb ob g) (hk.below (hb1.trans ((below_new w1 (.cells #[.int .i64 key] 3)).mono hb1.size))) 2 (by unfold I64; omega) p q none 0 0 [] _ 1 1 [key] (ins_one w1 key hkey) (Nat.le_refl _) (by unfold maxLen; omega) (by omega) (fun g hg => hg) (((below_new w1 _).cell (p := ⟨p, 0, none⟩) (block_lt_of_cell hp)).trans hp) (((below_new w1 _).cell (p := ⟨q, 0, none⟩) (block_lt_of_cell hq)).trans hq) (Bys.nil_ _ _) (Nat.le_refl _) (Nat.zero_le _) (fun h => absurd h (by omega)))
  rw [of_made] at HM
  clear hk hkey
  go_enter Tryz.func12, Tryz.ntmps12
  go_wp2_with (first | (go_at_call 33; refine (cput_any 2 none 0 0 _).mono ?_; rintro e w1 ⟨p, q, rfl, hp, hq, hb1⟩; have HM1 := Lib.hid (HM.out w1 p q hb1 hp hq); clear hp hq hb1) | (go_at_call 31; refine HM1.out.2.mono ?_; rintro e w4 hp; have HP := Lib.hid (InternPost.from HM1.out.1 hp); obtain ⟨ob', rfl, _⟩ := hp))
  go_ret2
  exact HP.out
theorem csign_any {S : Nat → Prop} {base vb mb : Nat} {ob : Option Nat} {L : List Tm} {w : World} (hk : Vok S base vb mb ob L w) (key : Int) (hkey : I64 key) (D : Option Addr) (la ca : Nat) (d : List Int) (hd : Bys w D la d) (hlc : la ≤ ca) (hcm : ca ≤ maxLen) (hDB : 0 < la → ∀ g off sp, D = some ⟨g, off, sp⟩ → ¬ Mut vb mb ob g) :
    Calls Tryz.prog 14 #[.pointer (some ⟨vb, 0, none⟩), .int .i64 key, .slice D la ca] w (InternPost S vb mb ob w (ofF L 3 key d)) := by
  have HM := Lib.hid fun (w1 : World) (p q : Nat) (hb1 : Below w.heap.size w w1) (hp : w1.cell? ⟨p, 0, none⟩ = some (.int .i64 3)) (hq : w1.cell? ⟨q, 0, none⟩ = some (.slice D la ca)) => And.intro (hb1.trans ((below_new w1 (.cells #[.int .i64 key] 3)).mono hb1.size)) (made_put (B := fun g => ¬ Mut vb mb ob g) (hk.below (hb1.trans ((below_new w1 (.cells #[.int .i64 key] 3)).mono hb1.size))) 3 (by unfold I64; omega) p q D la ca d _ 1 1 [key] (ins_one w1 key hkey) (Nat.le_refl _) (by unfold maxLen; omega) (by omega) (fun g hg => hg) (((below_new w1 _).cell (p := ⟨p, 0, none⟩) (block_lt_of_cell hp)).trans hp) (((below_new w1 _).cell (p := ⟨q, 0, none⟩) (block_lt_of_cell hq)).trans hq) (hd.below (hb1.trans ((below_new w1 (.cells #[.int .i64 key] 3)).mono hb1.size))) hlc hcm (fun hl g off sp e => hDB hl g off sp e))
  rw [of_made] at HM
  clear hk hkey hd hlc hcm hDB
  go_enter Tryz.func14, Tryz.ntmps14
  go_wp2_with (first | (go_at_call 33; refine (cput_any 3 D la ca _).mono ?_; rintro e w1 ⟨p, q, rfl, hp, hq, hb1⟩; have HM1 := Lib.hid (HM.out w1 p q hb1 hp hq); clear hp hq hb1) | (go_at_call 31; refine HM1.out.2.mono ?_; rintro e w4 hp; have HP := Lib.hid (InternPost.from HM1.out.1 hp); obtain ⟨ob', rfl, _⟩ := hp))
  go_ret2
  exact HP.out
theorem seal_any {S : Nat → Prop} {base vb mb : Nat} {ob : Option Nat} {L : List Tm} {w : World} (hk : Vok S base vb mb ob L w) (key : Int) (hkey : I64 key) (D : Option Addr) (la ca : Nat) (d : List Int) (hd : Bys w D la d) (hlc : la ≤ ca) (hcm : ca ≤ maxLen) (hDB : 0 < la → ∀ g off sp, D = some ⟨g, off, sp⟩ → ¬ Mut vb mb ob g) :
    Calls Tryz.prog 16 #[.pointer (some ⟨vb, 0, none⟩), .int .i64 key, .slice D la ca] w (InternPost S vb mb ob w (ofF L 4 key d)) := by
  have HM := Lib.hid fun (w1 : World) (p q : Nat) (hb1 : Below w.heap.size w w1) (hp : w1.cell? ⟨p, 0, none⟩ = some (.int .i64 4)) (hq : w1.cell? ⟨q, 0, none⟩ = some (.slice D la ca)) => And.intro (hb1.trans ((below_new w1 (.cells #[.int .i64 key] 3)).mono hb1.size)) (made_put (B := fun g => ¬ Mut vb mb ob g) (hk.below (hb1.trans ((below_new w1 (.cells #[.int .i64 key] 3)).mono hb1.size))) 4 (by unfold I64; omega) p q D la ca d _ 1 1 [key] (ins_one w1 key hkey) (Nat.le_refl _) (by unfold maxLen; omega) (by omega) (fun g hg => hg) (((below_new w1 _).cell (p := ⟨p, 0, none⟩) (block_lt_of_cell hp)).trans hp) (((below_new w1 _).cell (p := ⟨q, 0, none⟩) (block_lt_of_cell hq)).trans hq) (hd.below (hb1.trans ((below_new w1 (.cells #[.int .i64 key] 3)).mono hb1.size))) hlc hcm (fun hl g off sp e => hDB hl g off sp e))
  rw [of_made] at HM
  clear hk hkey hd hlc hcm hDB
  go_enter Tryz.func16, Tryz.ntmps16
  go_wp2_with (first | (go_at_call 33; refine (cput_any 4 D la ca _).mono ?_; rintro e w1 ⟨p, q, rfl, hp, hq, hb1⟩; have HM1 := Lib.hid (HM.out w1 p q hb1 hp hq); clear hp hq hb1) | (go_at_call 31; refine HM1.out.2.mono ?_; rintro e w4 hp; have HP := Lib.hid (InternPost.from HM1.out.1 hp); obtain ⟨ob', rfl, _⟩ := hp))
  go_ret2
  exact HP.out
theorem kdf_any {S : Nat → Prop} {base vb mb : Nat} {ob : Option Nat} {L : List Tm} {w : World} (hk : Vok S base vb mb ob L w) (key : Int) (hkey : I64 key) (D : Option Addr) (la ca : Nat) (d : List Int) (hd : Bys w D la d) (hlc : la ≤ ca) (hcm : ca ≤ maxLen) (hDB : 0 < la → ∀ g off sp, D = some ⟨g, off, sp⟩ → ¬ Mut vb mb ob g) :
    Calls Tryz.prog 18 #[.pointer (some ⟨vb, 0, none⟩), .int .i64 key, .slice D la ca] w (InternPost S vb mb ob w (ofF L 6 key d)) := by
  have HM := Lib.hid fun (w1 : World) (p q : Nat) (hb1 : Below w.heap.size w w1) (hp : w1.cell? ⟨p, 0, none⟩ = some (.int .i64 6)) (hq : w1.cell? ⟨q, 0, none⟩ = some (.slice D la ca)) => And.intro (hb1.trans ((below_new w1 (.cells #[.int .i64 key] 3)).mono hb1.size)) (made_put (B := fun g => ¬ Mut vb mb ob g) (hk.below (hb1.trans ((below_new w1 (.cells #[.int .i64 key] 3)).mono hb1.size))) 6 (by unfold I64; omega) p q D la ca d _ 1 1 [key] (ins_one w1 key hkey) (Nat.le_refl _) (by unfold maxLen; omega) (by omega) (fun g hg => hg) (((below_new w1 _).cell (p := ⟨p, 0, none⟩) (block_lt_of_cell hp)).trans hp) (((below_new w1 _).cell (p := ⟨q, 0, none⟩) (block_lt_of_cell hq)).trans hq) (hd.below (hb1.trans ((below_new w1 (.cells #[.int .i64 key] 3)).mono hb1.size))) hlc hcm (fun hl g off sp e => hDB hl g off sp e))
  rw [of_made] at HM
  clear hk hkey hd hlc hcm hDB
  go_enter Tryz.func18, Tryz.ntmps18
  go_wp2_with (first | (go_at_call 33; refine (cput_any 6 D la ca _).mono ?_; rintro e w1 ⟨p, q, rfl, hp, hq, hb1⟩; have HM1 := Lib.hid (HM.out w1 p q hb1 hp hq); clear hp hq hb1) | (go_at_call 31; refine HM1.out.2.mono ?_; rintro e w4 hp; have HP := Lib.hid (InternPost.from HM1.out.1 hp); obtain ⟨ob', rfl, _⟩ := hp))
  go_ret2
  exact HP.out
theorem hash_any {S : Nat → Prop} {base vb mb : Nat} {ob : Option Nat} {L : List Tm} {w : World} (hk : Vok S base vb mb ob L w) (D : Option Addr) (la ca : Nat) (d : List Int) (hd : Bys w D la d) (hlc : la ≤ ca) (hcm : ca ≤ maxLen) (hDB : 0 < la → ∀ g off sp, D = some ⟨g, off, sp⟩ → ¬ Mut vb mb ob g) :
    Calls Tryz.prog 20 #[.pointer (some ⟨vb, 0, none⟩), .slice D la ca] w (InternPost S vb mb ob w (internV (.mk 5 0 d []) L)) := by
  have HM := Lib.hid fun (w1 : World) (p q : Nat) (hb1 : Below w.heap.size w w1) (hp : w1.cell? ⟨p, 0, none⟩ = some (.int .i64 5)) (hq : w1.cell? ⟨q, 0, none⟩ = some (.slice D la ca)) => And.intro hb1 (made_put (B := fun g => ¬ Mut vb mb ob g) (hk.below hb1) 5 (by unfold I64; omega) p q D la ca d none 0 0 [] (Ins.nil_ _ _) (Nat.le_refl _) (Nat.zero_le _) (by omega) (fun g hg => hg) hp hq (hd.below hb1) hlc hcm (fun hl g off sp e => hDB hl g off sp e))
  rw [hash_made] at HM
  clear hk hd hlc hcm hDB
  go_enter Tryz.func20, Tryz.ntmps20
  go_wp2_with (first | (go_at_call 33; refine (cput_any 5 D la ca _).mono ?_; rintro e w1 ⟨p, q, rfl, hp, hq, hb1⟩; have HM1 := Lib.hid (HM.out w1 p q hb1 hp hq); clear hp hq hb1) | (go_at_call 31; refine HM1.out.2.mono ?_; rintro e w4 hp; have HP := Lib.hid (InternPost.from HM1.out.1 hp); obtain ⟨ob', rfl, _⟩ := hp))
  go_ret2
  exact HP.out
theorem atom_any {S : Nat → Prop} {base vb mb : Nat} {ob : Option Nat} {L : List Tm} {w : World} (hk : Vok S base vb mb ob L w) (num : Int) (hm : I64 num) :
    Calls Tryz.prog 6 #[.pointer (some ⟨vb, 0, none⟩), .int .i64 num] w (InternPost S vb mb ob w (internV (.mk 1 num [] []) L)) := by
  have hmf : ∀ (fn : Fn) (first cap : Array Value) (w : World), (Instr.makeFunc fn first cap).run Tryz.prog w = .ok (.func fn first cap) w := fun _ _ _ _ => rfl
  have hb1 : Below w.heap.size w (w.alloc (.cells #[.int .i64 num] 2)) := below_new _ _
  have hp : (w.alloc (.cells #[.int .i64 num] 2)).cell? ⟨w.heap.size, 0, none⟩ = some (.int .i64 num) := (Lib.cell_of_heap (heap_new_ w (.cells #[.int .i64 num] 2)) 0).trans rfl
  have hM := made_any S (fun g => ¬ Mut vb mb ob g) base vb mb ob L none 0 0 [] 32 #[.pointer (some ⟨w.heap.size, 0, none⟩)] (fun _ => some (.mk 1 num [] [])) _ (hk.below hb1).vlt hk.sz (Ins.nil_ _ _) (Nat.le_refl _) (Nat.zero_le _) (by omega) (hk.below hb1).tab (hk.below hb1).lo hk.mlo (fun g hg => hg) (enters_of Tryz.func32 (by kernel_rfl) rfl)
    (fun ts A' c' W hW hh hl hz h1 h2 => atom1_any num hm w.heap.size _ A' 0 c' W ((hW.cell (p := ⟨w.heap.size, 0, none⟩) (block_lt_of_cell hp)).trans hp)) (fun ts t hh e => by cases e; unfold szT szTs; omega)
  rw [atom_made] at hM
  have HM := Lib.hid (And.intro hb1 hM)
  clear hM hb1 hp hk hm
  go_enter Tryz.func6, Tryz.ntmps6
  go_wp2_with (go_at_call 31; refine HM.out.2.mono ?_; rintro e w4 hp; have HP := Lib.hid (InternPost.from HM.out.1 hp); obtain ⟨ob', rfl, _⟩ := hp)
  go_ret2
  exact HP.out
theorem atom_nil (num : Int) (w : World) : Calls Tryz.prog 6 #[.pointer none, .int .i64 num] w fun e w' => e = .returned (.tuple #[.int .i64 (-1), .int .i64 1]) ∧ Below w.heap.size w w' := by
  have hmf : ∀ (fn : Fn) (first cap : Array Value) (w : World), (Instr.makeFunc fn first cap).run Tryz.prog w = .ok (.func fn first cap) w := fun _ _ _ _ => rfl
  have HB := Lib.hid (below_new w (.cells #[.int .i64 num] 2))
  go_enter Tryz.func6, Tryz.ntmps6
  go_wp2_with (go_at_call 31; refine (made_nil _ _ _ _ _).mono ?_; rintro e w4 ⟨rfl, rfl⟩)
  go_ret2
  exact ⟨rfl, HB.out⟩
theorem cpow_any {S : Nat → Prop} {base vb mb : Nat} {ob : Option Nat} {L : List Tm} {w : World} (hk : Vok S base vb mb ob L w) (b x : Int) (hb : I64 b) (hx : I64 x) :
    Calls Tryz.prog 10 #[.pointer (some ⟨vb, 0, none⟩), .int .i64 b, .int .i64 x] w (InternPost S vb mb ob w (powL L b x)) := by
  have hb1 : Below w.heap.size w (w.alloc (.cells #[.int .i64 b, .int .i64 x] 3)) := below_new _ _
  have hM := made_any S (fun g => ¬ Mut vb mb ob g) base vb mb ob L _ 2 2 [b, x] 35 #[] powT _ (hk.below hb1).vlt hk.sz (ins_two w b x hb hx) (Nat.le_refl _) (by unfold maxLen; omega) (by omega) (hk.below hb1).tab (hk.below hb1).lo hk.mlo (fun g hg => hg) (enters_of Tryz.func35 (by kernel_rfl) rfl)
    (fun ts A' c' W hW hh hl hz h1 h2 => by
      match ts, hl with
      | [s, t], _ =>
        have hsz := handsF_sz hk.sz hh
        rw [szTs_two, szTs_two] at hsz
        have hs := hW.size
        refine (pow1_any s t _ A' c' W hz h1 h2 (by simp at hsz; omega)).mono ?_
        rintro e w' ⟨v, h3, h4, h5⟩
        exact ⟨v, h3, TmV.mono h4 (fun g hg => .inr (by omega)), h5⟩) (fun ts t hh e => by
      match ts, e with
      | [s, t0], e =>
        have hsz := handsF_sz hk.sz hh
        rw [szTs_two, szTs_two] at hsz
        have h1 := powF_sz e
        simp at hsz
        omega)
  rw [pow_made] at hM
  have HM := Lib.hid (And.intro hb1 hM)
  clear hM hb1 hk hb hx
  go_enter Tryz.func10, Tryz.ntmps10
  go_wp2_with (go_at_call 31; refine HM.out.2.mono ?_; rintro e w4 hp; have HP := Lib.hid (InternPost.from HM.out.1 hp); obtain ⟨ob', rfl, _⟩ := hp)
  go_ret2
  exact HP.out
end Go.Proofs.YtfmdmahlljbbmaaGreatDoor.vtc
