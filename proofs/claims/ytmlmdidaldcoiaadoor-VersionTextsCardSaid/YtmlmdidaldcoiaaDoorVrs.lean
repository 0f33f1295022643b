/- Parse and Find: the document's own (printed by wip/gen/vrps.py). -/
import Derived.Test.YtmlmdidaldcoiaaDoorVrt
import Derived.Test.YtmlmdidaldcoiaaDoorVrp
namespace Go.Proofs.YtmlmdidaldcoiaaDoor
open Go Go.Maps Go.ChangeShapes Go.WideShapes Go.ChangeAt Go.RowKit
set_option linter.unusedVariables false
set_option linter.unusedSimpArgs false

/-- The serialisation among the first k with a name, or 0. -/
def fzI (l : List UInt8) (k : Nat) : Int := if formN l ≤ (k : Int) then formN l else 0
theorem formN_iff (l : List UInt8) (k : Nat) (hk : k < 3) : formL ((k : Int) + 1) = l ↔ formN l = (k : Int) + 1 := by
  constructor
  · rintro rfl
    exact (formL_len (by omega)).2
  · intro h
    unfold formN at h
    split at h
    · rename_i e; rw [e, ← h]; rfl
    · split at h
      · rename_i e; rw [e, ← h]; rfl
      · split at h
        · rename_i e; rw [e, ← h]; rfl
        · omega
theorem fz_hit {l : List UInt8} {k : Nat} (hk : k < 3) (h : formL ((k : Int) + 1) = l) : fzI l (k + 1) = (k : Int) + 1 := by
  have := (formN_iff l k hk).1 h
  unfold fzI
  rw [this, if_pos (by omega)]
theorem fz_miss {l : List UInt8} {k : Nat} (hk : k < 3) (h : formL ((k : Int) + 1) ≠ l) : fzI l (k + 1) = fzI l k := by
  have h1 : formN l ≠ (k : Int) + 1 := fun e => h ((formN_iff l k hk).2 e)
  unfold fzI
  by_cases h2 : formN l ≤ (k : Int)
  · rw [if_pos h2, if_pos (by omega)]
  · rw [if_neg h2, if_neg (by omega)]
theorem fz_end (l : List UInt8) : fzI l 3 = formN l := by
  unfold fzI; rw [if_pos (by have := formN_le l; omega)]
theorem hxI_cases (l : List UInt8) : (∃ n, vhN l = some n ∧ hxI l = (n : Int)) ∨ (vhN l = none ∧ hxI l = -1) := by
  unfold hxI
  cases vhN l with
  | none => exact .inr ⟨rfl, rfl⟩
  | some n => exact .inl ⟨n, rfl, rfl⟩
/-- What is read strictly is the version, if it is valid and the text ends with _. -/
theorem pv_strict {s : ByteArray} (hs : s.size = 17) {v : VD} (hv : v = ⟨s.extract 0 4, hxI (s.extract 4 5).data.toList, hxI (s.extract 5 6).data.toList, formN (s.extract 6 10).data.toList, hxI (s.extract 10 16).data.toList⟩) (h16 : 16 < s.size) :
    (validV v = true → s[16].toNat = 95 → parseV s.data.toList = some v) ∧ ((validV v = false ∨ s[16].toNat ≠ 95) → parseV s.data.toList = none) := by
  have hl : s.data.toList.length = 17 := by rw [Array.length_toList]; exact hs
  have hg := Lib.data_getElem? s 16 h16
  have hd : s.data.toList.drop 16 = [s[16]] := by
    rw [List.drop_eq_getElem_cons (by omega), List.drop_eq_nil_of_le (by omega)]
    rw [List.getElem?_eq_getElem (by omega)] at hg
    rw [Option.some.inj hg]
  have h95 : s.data.toList.drop 16 = [95] ↔ s[16].toNat = 95 := by
    rw [hd]
    constructor
    · intro e; rw [List.cons.inj e |>.1]; rfl
    · intro e; rw [show s[16] = 95 from UInt8.toNat_inj.1 e]
  have hp : (⟨(s.data.toList.take 4).toArray⟩ : ByteArray) = s.extract 0 4 := by
    apply ByteArray.ext; apply Array.toList_inj.1; rw [vext_list]; rfl
  rw [vext_list, vext_list, vext_list, vext_list] at hv
  have hv : v = ⟨s.extract 0 4, hxI ((s.data.toList.drop 4).take 1), hxI ((s.data.toList.drop 5).take 1), formN ((s.data.toList.drop 6).take 4), hxI ((s.data.toList.drop 10).take 6)⟩ := hv
  have e0 : parseV s.data.toList = match vhN ((s.data.toList.drop 4).take 1), vhN ((s.data.toList.drop 5).take 1), vhN ((s.data.toList.drop 10).take 6) with
    | some a, some b, some z => if validV ⟨s.extract 0 4, a, b, formN ((s.data.toList.drop 6).take 4), z⟩ ∧ s.data.toList.drop 16 = [95] then some ⟨s.extract 0 4, a, b, formN ((s.data.toList.drop 6).take 4), z⟩ else none
    | _, _, _ => none := by unfold parseV; rw [if_pos hl, hp]; rfl
  have neg : ∀ {u : VD}, (u.a = -1 ∨ u.b = -1 ∨ u.z = -1) → validV u = false := fun {u} h => Bool.eq_false_iff.2 fun hu => by
    obtain ⟨-, -, g3, g4, g5⟩ := validV_parts hu
    omega
  rcases hxI_cases ((s.data.toList.drop 4).take 1) with ⟨a, ha, ea⟩ | ⟨ha, ea⟩
  · rcases hxI_cases ((s.data.toList.drop 5).take 1) with ⟨b, hb, eb⟩ | ⟨hb, eb⟩
    · rcases hxI_cases ((s.data.toList.drop 10).take 6) with ⟨z, hz, ez⟩ | ⟨hz, ez⟩
      · rw [e0, ha, hb, hz]
        rw [ea, eb, ez] at hv
        show (validV v = true → _ → (if _ then _ else _) = some v) ∧ (_ → (if _ then _ else _) = none)
        rw [← hv]
        refine ⟨fun h1 h2 => if_pos ⟨h1, h95.2 h2⟩, fun h => if_neg fun g => ?_⟩
        rcases h with h | h
        · rw [g.1] at h; cases h
        · exact h (h95.1 g.2)
      · have hn : parseV s.data.toList = none := by rw [e0, ha, hb, hz]
        have hf : validV v = false := neg (.inr (.inr (by rw [hv]; exact ez)))
        exact ⟨fun h => (by rw [hf] at h; cases h), fun _ => hn⟩
    · have hn : parseV s.data.toList = none := by rw [e0, ha, hb]
      have hf : validV v = false := neg (.inr (.inl (by rw [hv]; exact eb)))
      exact ⟨fun h => (by rw [hf] at h; cases h), fun _ => hn⟩
  · have hn : parseV s.data.toList = none := by rw [e0, ha]
    have hf : validV v = false := neg (.inl (by rw [hv]; exact ea))
    exact ⟨fun h => (by rw [hf] at h; cases h), fun _ => hn⟩
/-- Block g is the slice of the three names. -/
def SlG (w : World) (g : Nat) : Prop := w.heap[g]? = some (.cells #[.string ⟨#[74, 83, 79, 78]⟩, .string ⟨#[67, 66, 79, 82]⟩, .string ⟨#[77, 71, 80, 75]⟩] 9 (0, 0))
theorem SlG.at {w : World} {g k : Nat} (h : SlG w g) (hk : k < 3) : w.cell? ⟨g, k, none⟩ = some (.string (bV (formL ((k : Int) + 1)))) := by
  have h' : w.heap[g]? = some (.cells #[.string ⟨#[74, 83, 79, 78]⟩, .string ⟨#[67, 66, 79, 82]⟩, .string ⟨#[77, 71, 80, 75]⟩] 9 (0, 0)) := h
  rcases (by omega : k = 0 ∨ k = 1 ∨ k = 2) with rfl | rfl | rfl <;> (simp [World.cell?, h']; rfl)
/-- While the names are gone through. -/
structure PrW (w wr : World) (g4 gs : Nat) (p : ByteArray) (a b f z : Int) : Prop where
  v : wr.heap[g4]? = some (.cells #[.string p, .int .i64 a, .int .i64 b, .int .i64 f, .int .i64 z] 24 (0, 0))
  s : SlG wr gs
  r : PW w wr
  ne : w.heap.size < g4 ∧ g4 < gs
theorem PrW.set {w wr : World} {g4 gs : Nat} {p : ByteArray} {a b f z : Int} (h : PrW w wr g4 gs p a b f z) (y : Int) : PrW w (wr.setCell ⟨g4, 3, none⟩ (.int .i64 y)) g4 gs p a b y z := by
  have hg := vgrown_set wr g4 3 (.int .i64 y)
  have hne := h.ne
  refine ⟨vheap_set h.v (.int .i64 y), (hg.block _ (lt_of_block h.s) (by intro e; have := Option.some.inj e; omega)).trans h.s, ⟨(hg.block _ (lt_of_block h.r.1) (by intro e; have := Option.some.inj e; omega)).trans h.r.1, h.r.2.grown hg h.r.2.size (fun k hk => by cases hk; omega)⟩, hne⟩
set_option maxHeartbeats 6400000 in
set_option maxRecDepth 100000 in
theorem rvparse_any (s : ByteArray) (w : World) : Calls Tryd.prog 17 #[.string s] w (PsPost s w) := by
  have b0 := (Below.refl w.heap.size w).alloc (o := .cells #[.string ⟨#[]⟩, .int .i64 0, .int .i64 0, .int .i64 0, .int .i64 0] 24) (Nat.le_refl _)
  have k0 := heap_alloc_new w (.cells #[.string ⟨#[]⟩, .int .i64 0, .int .i64 0, .int .i64 0, .int .i64 0] 24)
  by_cases hs : s.size = 17
  · have q1 : ((s.size : Int) != 17) = false := by rw [hs]; rfl
    have q2 : ((s.size : Int) == 17) = true := by rw [hs]; rfl
    obtain ⟨na, hna⟩ : ∃ z, z = hxI (s.extract 4 5).data.toList := ⟨_, rfl⟩
    obtain ⟨nb, hnb⟩ : ∃ z, z = hxI (s.extract 5 6).data.toList := ⟨_, rfl⟩
    obtain ⟨nz, hnz⟩ : ∃ z, z = hxI (s.extract 10 16).data.toList := ⟨_, rfl⟩
    have h16 : 16 < s.size := by omega
    have HPV : Hid (∀ v : VD, v = ⟨s.extract 0 4, na, nb, formN (s.extract 6 10).data.toList, nz⟩ → (validV v = true → s[16].toNat = 95 → parseV s.data.toList = some v) ∧ ((validV v = false ∨ s[16].toNat ≠ 95) → parseV s.data.toList = none)) := Lib.hid fun v hv => pv_strict hs (by rw [hv, hna, hnb, hnz]) h16
    have R1 : Hid (∀ wx : World, Calls Tryd.prog 30 #[.string (s.extract 4 5)] wx fun e w' => e = .returned (.int .i64 na) ∧ Below wx.heap.size wx w') := Lib.hid fun wx => by rw [hna]; exact rvnum_any _ wx (by rw [ByteArray.size_extract]; omega)
    have R2 : Hid (∀ wx : World, Calls Tryd.prog 30 #[.string (s.extract 5 6)] wx fun e w' => e = .returned (.int .i64 nb) ∧ Below wx.heap.size wx w') := Lib.hid fun wx => by rw [hnb]; exact rvnum_any _ wx (by rw [ByteArray.size_extract]; omega)
    have R3 : Hid (∀ wx : World, Calls Tryd.prog 30 #[.string (s.extract 10 16)] wx fun e w' => e = .returned (.int .i64 nz) ∧ Below wx.heap.size wx w') := Lib.hid fun wx => by rw [hnz]; exact rvnum_any _ wx (by rw [ByteArray.size_extract]; omega)
    have z1 : (4 : Int) ≤ (s.size : Int) := by omega
    have z2 : (5 : Int) ≤ (s.size : Int) := by omega
    have z3 : (6 : Int) ≤ (s.size : Int) := by omega
    have z4 : (10 : Int) ≤ (s.size : Int) := by omega
    have z5 : (16 : Int) ≤ (s.size : Int) := by omega
    have z6 : (16 : Int) < (s.size : Int) := by omega
    obtain ⟨x16, hx16⟩ : ∃ x : UInt8, x = s[16] := ⟨_, rfl⟩
    rw [← hx16] at HPV
    have HX16 := Lib.hid hx16
    clear hs hna hnb hnz hx16
    go_enter Tryd.func17, Tryd.ntmps17
    go_upto_region 3 with fail
    generalize w.alloc _ = w1 at b0 k0 ⊢
    have K0 := Lib.hid k0
    have B0 := Lib.hid b0
    clear k0 b0
    refine wp_region_plan (fun _ => True) [] (.take 0 (.take 1 (.take 2 (.take 3 (.take 5 (.take 6 (.take 8 (.take 9 (Plan.join true (.ask 4 false (.ask 7 false (.ask 10 false (.take 11 (.ask 12 false .stop .stop)) (.ask 12 false (.ask 10 false (.take 11 .stop) .stop) .stop)) (.ask 12 false (.ask 7 false (.ask 10 false (.take 11 .stop) .stop) .stop) .stop)) (.ask 12 false (.ask 4 false (.ask 7 false (.ask 10 false (.take 11 .stop) .stop) .stop) .stop) .stop)) (.ask 13 false .stop .stop)))))))))) (by kernel_rfl) (by kernel_rfl) (fun _ d _ _ _ h => by cases d <;> exact h) trivial ?_
    have hb2 := (Below.refl w1.heap.size w1).drew
    have B2 := Lib.hid (B0.out.trans (hb2.mono B0.out.size))
    have K2 := Lib.hid ((hb2.block _ (lt_of_block K0.out)).trans K0.out)
    clear hb2 B0 K0
    generalize w1.drew = wn0 at B2 K2 ⊢
    refine take_any _ ?_ rfl rfl ?_ (fun K hK => ?_); rotate_left; (intro w0; go_simp; (try rfl)); (go_simp; refine hK _ ?_; clear hK K)
    refine take_any _ ?_ rfl rfl ?_ (fun K hK => ?_); rotate_left; (intro w0; go_simp; (try rfl)); (go_simp; refine hK _ ?_; clear hK K)
    refine take_any _ ?_ rfl rfl ?_ (fun K hK => ?_); rotate_left; (intro w0; go_simp; (try rfl)); (go_simp; refine hK _ ?_; clear hK K)
    refine take_any _ ?_ rfl rfl ?_ (fun K hK => ?_); rotate_left; (intro w0; go_simp; (try rfl)); (go_simp; refine hK _ ?_; clear hK K)
    refine take_any _ ?_ rfl rfl ?_ (fun K hK => ?_); rotate_left; (intro w0; go_simp; (try rfl)); (go_simp; refine hK _ ?_; clear hK K)
    refine take_any _ ?_ rfl rfl ?_ (fun K hK => ?_); rotate_left; (intro w0; go_simp; (try rfl)); (go_simp; refine hK _ ?_; clear hK K)
    refine take_any _ ?_ rfl rfl ?_ (fun K hK => ?_); rotate_left; (intro w0; go_simp; (try rfl)); (go_simp; refine hK _ ?_; clear hK K)
    refine take_any _ ?_ rfl rfl ?_ (fun K hK => ?_); rotate_left; (intro w0; go_simp; (try rfl)); (go_simp; refine hK _ ?_; clear hK K)
    have HW0 : Hid (PW w wn0) := Lib.hid ⟨K2.out, B2.out⟩
    clear K2 B2
    refine plan_cut [4, 15, 18, 21, 22] (fun vs wx => ∃ g4 : Nat, vs = [.pointer (some ⟨g4, 0, none⟩), .int .i64 na, .int .i64 nb, .int .i64 nz, .agg #[.string (s.extract 0 4), .int .i64 na, .int .i64 nb, .int .i64 0, .int .i64 nz]] ∧ PA w wx g4 ∧ PW w wx) ?_ ?_
    rotate_left
    · rintro vs wx ⟨g4, rfl, hA, hW⟩
      simp only [puts, Act.put, List.setIfInBounds_toArray, List.set_cons_zero, List.set_cons_succ]
      have f4 := free_five hA.1
      have c4 := five_of hA.1
      have k5 := five_put hA.1 (.string (s.extract 0 4)) (.int .i64 na) (.int .i64 nb) (.int .i64 0) (.int .i64 nz)
      have g5 := grown_set5 wx g4 (.string (s.extract 0 4)) (.int .i64 na) (.int .i64 nb) (.int .i64 0) (.int .i64 nz)
      have hlt := hA.2
      have r5 := (g5.block _ (lt_of_block hW.1) (by intro e; have := Option.some.inj e; omega)).trans hW.1
      have B5 := hW.2.grown g5 hW.2.size (fun k hk => by cases hk; omega)
      have K5 := Lib.hid (And.intro k5 (And.intro r5 B5))
      have HLT := Lib.hid hlt
      clear hA hW k5 g5 r5 B5 HW0 R1 R2 R3 hlt
      unfold set5 at K5
      refine ask_last _ rfl trivial ?_
      go_upto_region 4 with fail
      generalize ((((wx.setCell ⟨g4, 0, none⟩ _).setCell ⟨g4, 1, none⟩ _).setCell ⟨g4, 2, none⟩ _).setCell ⟨g4, 3, none⟩ _).setCell ⟨g4, 4, none⟩ _ = w5 at K5 ⊢
      clear c4 f4
      have b6 := (Below.refl w5.heap.size w5).alloc (o := .cells #[.string ⟨#[74, 83, 79, 78]⟩, .string ⟨#[67, 66, 79, 82]⟩, .string ⟨#[77, 71, 80, 75]⟩] 9) (Nat.le_refl _)
      have HP0 : Hid (PrW w (w5.alloc (.cells #[.string ⟨#[74, 83, 79, 78]⟩, .string ⟨#[67, 66, 79, 82]⟩, .string ⟨#[77, 71, 80, 75]⟩] 9)) g4 w5.heap.size (s.extract 0 4) na nb (fzI (s.extract 6 10).data.toList 0) nz) := Lib.hid ⟨by rw [show fzI (s.extract 6 10).data.toList 0 = 0 by unfold fzI; split; (have := formN_le (s.extract 6 10).data.toList; omega); rfl]; exact (b6.block _ (lt_of_block K5.out.1)).trans K5.out.1, heap_alloc_new _ _, PW.step ⟨K5.out.2.1, K5.out.2.2⟩ b6, ⟨HLT.out, lt_of_block K5.out.1⟩⟩
      go_upto_region 5 with fail
      generalize w5.alloc _ = w6 at HP0 ⊢
      generalize w5.heap.size = gs at HP0 ⊢
      clear K5 b6
      obtain ⟨fl, hfl⟩ : ∃ fl, fl = (s.extract 6 10).data.toList := ⟨_, rfl⟩
      rw [← hfl] at HP0 HPV
      have HFL := Lib.hid hfl
      clear hfl
      go_loopw [5, 6, 25] (fun _ _ vc wr => ∃ k : Nat, k ≤ 3 ∧ vc = .int .i64 (k : Int) ∧ PrW w wr g4 gs (s.extract 0 4) na nb (fzI fl k) nz) (fun _ _ vc _ => 3 - (intOf vc).toNat)
      case atStart => exact ⟨0, by decide, rfl, HP0.out⟩
      case round =>
        obtain ⟨k, hk3, rfl, hP⟩ := hrel
        clear HP0
        by_cases hk : k < 3
        · have hcl := hP.s.at hk
          have hkI : (k : Int) < 3 := by omega
          have hk0 : (0 : Int) ≤ (k : Int) := by omega
          have c4 := five_of hP.v
          have f4 := free_five hP.v
          have HP := Lib.hid hP
          obtain ⟨nm, hnm⟩ : ∃ nm, nm = bV (formL ((k : Int) + 1)) := ⟨_, rfl⟩
          rw [← hnm] at hcl
          by_cases hq : formL ((k : Int) + 1) = fl
          · have q3 : ((s.extract 6 10).toList == nm.toList) = true := by rw [hnm, Lib.toList_data, Lib.toList_data, bV_data, hq, HFL.out]; exact beq_self_eq_true _
            have HZ := Lib.hid (fz_hit hk hq)
            clear hq hnm hP
            go_wp2
            go_roundw
            case rel => exact ⟨k + 1, by omega, by go_num, by rw [HZ.out]; exact HP.out.set ((k : Int) + 1)⟩
            case measure => simp [intOf]; omega
          · have q3 : ((s.extract 6 10).toList == nm.toList) = false := by
              rw [hnm, Lib.toList_data, Lib.toList_data, bV_data, ← HFL.out, beq_eq_false_iff_ne]; exact fun e => hq e.symm
            have HZ := Lib.hid (fz_miss hk hq)
            clear hq hnm hP
            go_wp2
            go_roundw
            case rel => exact ⟨k + 1, by omega, by go_num, by rw [HZ.out]; exact HP.out⟩
            case measure => simp [intOf]; omega
        · obtain rfl : k = 3 := by omega
          rw [fz_end] at hP
          have HP := Lib.hid hP
          have c4 := five_of hP.v
          have d4 := five_of hP.r.1
          have HV := Lib.hid (HPV.out _ rfl)
          have VA : Hid (∀ wx : World, Calls Tryd.prog 14 #[.agg #[.string (s.extract 0 4), .int .i64 na, .int .i64 nb, .int .i64 (formN fl), .int .i64 nz]] wx fun e w' => e = .returned (.bool (validV ⟨s.extract 0 4, na, nb, formN fl, nz⟩)) ∧ Below wx.heap.size wx w') := Lib.hid fun wx => rvvalid_any ⟨s.extract 0 4, na, nb, formN fl, nz⟩ wx
          obtain ⟨bb, hbb⟩ : ∃ bb, bb = validV ⟨s.extract 0 4, na, nb, formN fl, nz⟩ := ⟨_, rfl⟩
          rw [← hbb] at VA HV
          have hx16 := HX16.out.symm
          clear hP hk HPV hbb HFL
          cases bb with
          | false =>
            have HN := Lib.hid (HV.out.2 (.inl rfl))
            clear HV hx16
            go_upto_region 11 with (go_at_call 14; (with_reducible refine (VA.out _).mono ?_); rintro e w7 ⟨rfl, hb7⟩)
            have R7 := Lib.hid (HP.out.r.step hb7)
            have f7 := free_five R7.out.1
            have c7 := five_of R7.out.1
            clear hb7 HP c4 d4
            go_wp2
            refine ret_vers (x0 := .string ⟨#[]⟩) (x1 := .int .i64 0) (x2 := .int .i64 0) (x3 := .int .i64 0) (x4 := .int .i64 0) (v := .int .i64 10) R7.out.1 rfl rfl rfl rfl ?_
            exact ⟨by unfold pvV pvE; rw [HN.out]; rfl, R7.out.2.grown (grown_set5 _ _ _ _ _ _ _) R7.out.2.size (fun k hk => by cases hk; exact Nat.le_refl _)⟩
          | true =>
            by_cases h95 : x16.toNat = 95
            · have HN := Lib.hid (HV.out.1 rfl h95)
              have q3 : ((x16.toNat : Int) != 95) = false := by rw [h95]; rfl
              have q4 : ((x16.toNat : Int) == 95) = true := by rw [h95]; rfl
              clear HV h95
              go_upto_region 12 with (go_at_call 14; (with_reducible refine (VA.out _).mono ?_); rintro e w7 ⟨rfl, hb7⟩)
              have R7 := Lib.hid (HP.out.r.step hb7)
              have k7 := five_of ((hb7.block _ (lt_of_block HP.out.v)).trans HP.out.v)
              have f7 := free_five R7.out.1
              have c7 := five_of R7.out.1
              clear hb7 HP c4 d4
              go_wp2
              refine ret_vers (x0 := .string (s.extract 0 4)) (x1 := .int .i64 na) (x2 := .int .i64 nb) (x3 := .int .i64 (formN fl)) (x4 := .int .i64 nz) (v := .int .i64 0) R7.out.1 rfl rfl rfl rfl ?_
              exact ⟨by unfold pvV pvE; rw [HN.out]; rfl, R7.out.2.grown (grown_set5 _ _ _ _ _ _ _) R7.out.2.size (fun k hk => by cases hk; exact Nat.le_refl _)⟩
            · have HN := Lib.hid (HV.out.2 (.inr h95))
              have q3 : ((x16.toNat : Int) != 95) = true := by simp; omega
              have q4 : ((x16.toNat : Int) == 95) = false := by simp; omega
              clear HV h95
              go_upto_region 11 with (go_at_call 14; (with_reducible refine (VA.out _).mono ?_); rintro e w7 ⟨rfl, hb7⟩)
              have R7 := Lib.hid (HP.out.r.step hb7)
              have f7 := free_five R7.out.1
              have c7 := five_of R7.out.1
              clear hb7 HP c4 d4
              go_wp2
              refine ret_vers (x0 := .string ⟨#[]⟩) (x1 := .int .i64 0) (x2 := .int .i64 0) (x3 := .int .i64 0) (x4 := .int .i64 0) (v := .int .i64 10) R7.out.1 rfl rfl rfl rfl ?_
              exact ⟨by unfold pvV pvE; rw [HN.out]; rfl, R7.out.2.grown (grown_set5 _ _ _ _ _ _ _) R7.out.2.size (fun k hk => by cases hk; exact Nat.le_refl _)⟩
    · refine ask_late _ rfl ?_ ?_
      · refine ask_late _ rfl trivial ?_
        go_wp2_with fail
        refine Seg.mk ?_
        have HA1 := Lib.hid (HW0.out.made)
        have HW1 := Lib.hid (HW0.out.step ((Below.refl _ _).alloc (o := .cells #[.string ⟨#[]⟩, .int .i64 0, .int .i64 0, .int .i64 0, .int .i64 0] 24) (Nat.le_refl _)))
        generalize wn0.alloc _ = wn1 at HW1 HA1 ⊢
        generalize wn0.heap.size = g4 at HA1 ⊢
        refine ask_late _ rfl trivial ?_
        go_wp2_with (go_at_call 30; (with_reducible refine (R1.out _).mono ?_); rintro e wn2 ⟨rfl, hb2⟩)
        refine Seg.mk ?_
        have HW2 := Lib.hid (HW1.out.step hb2)
        have HA2 := Lib.hid (HA1.out.step hb2)
        clear hb2
        refine ask_late _ rfl trivial ?_
        go_wp2_with (go_at_call 30; (with_reducible refine (R2.out _).mono ?_); rintro e wn3 ⟨rfl, hb3⟩)
        refine Seg.mk ?_
        have HW3 := Lib.hid (HW2.out.step hb3)
        have HA3 := Lib.hid (HA2.out.step hb3)
        clear hb3
        refine ask_late _ rfl trivial ?_
        go_wp2_with (go_at_call 30; (with_reducible refine (R3.out _).mono ?_); rintro e wn4 ⟨rfl, hb4⟩)
        refine Seg.mk ?_
        have HW4 := Lib.hid (HW3.out.step hb4)
        have HA4 := Lib.hid (HA3.out.step hb4)
        clear hb4
        refine take_any _ ?_ rfl rfl ?_ (fun K hK => ?_); rotate_left; (intro w0; go_simp; (try rfl)); (go_simp; refine hK _ ?_; clear hK K)
        exact plan_meet [.pointer (some ⟨g4, 0, none⟩), .int .i64 na, .int .i64 nb, .int .i64 nz, .agg #[.string (s.extract 0 4), .int .i64 na, .int .i64 nb, .int .i64 0, .int .i64 nz]] ⟨g4, rfl, HA4.out, HW4.out⟩ (by simp only [puts, Act.put, List.setIfInBounds_toArray, List.set_cons_zero, List.set_cons_succ])
      · go_wp2_with (go_at_call 30; (with_reducible refine (R1.out _).mono ?_); rintro e wn1 ⟨rfl, hb1⟩)
        refine Seg.mk ?_
        have HW1 := Lib.hid (HW0.out.step hb1)
        clear hb1
        refine ask_late _ rfl ?_ ?_
        · refine ask_late _ rfl trivial ?_
          go_wp2_with fail
          refine Seg.mk ?_
          have HA2 := Lib.hid (HW1.out.made)
          have HW2 := Lib.hid (HW1.out.step ((Below.refl _ _).alloc (o := .cells #[.string ⟨#[]⟩, .int .i64 0, .int .i64 0, .int .i64 0, .int .i64 0] 24) (Nat.le_refl _)))
          generalize wn1.alloc _ = wn2 at HW2 HA2 ⊢
          generalize wn1.heap.size = g4 at HA2 ⊢
          refine ask_late _ rfl trivial ?_
          go_wp2_with (go_at_call 30; (with_reducible refine (R2.out _).mono ?_); rintro e wn3 ⟨rfl, hb3⟩)
          refine Seg.mk ?_
          have HW3 := Lib.hid (HW2.out.step hb3)
          have HA3 := Lib.hid (HA2.out.step hb3)
          clear hb3
          refine ask_late _ rfl trivial ?_
          go_wp2_with (go_at_call 30; (with_reducible refine (R3.out _).mono ?_); rintro e wn4 ⟨rfl, hb4⟩)
          refine Seg.mk ?_
          have HW4 := Lib.hid (HW3.out.step hb4)
          have HA4 := Lib.hid (HA3.out.step hb4)
          clear hb4
          refine take_any _ ?_ rfl rfl ?_ (fun K hK => ?_); rotate_left; (intro w0; go_simp; (try rfl)); (go_simp; refine hK _ ?_; clear hK K)
          exact plan_meet [.pointer (some ⟨g4, 0, none⟩), .int .i64 na, .int .i64 nb, .int .i64 nz, .agg #[.string (s.extract 0 4), .int .i64 na, .int .i64 nb, .int .i64 0, .int .i64 nz]] ⟨g4, rfl, HA4.out, HW4.out⟩ (by simp only [puts, Act.put, List.setIfInBounds_toArray, List.set_cons_zero, List.set_cons_succ])
        · go_wp2_with (go_at_call 30; (with_reducible refine (R2.out _).mono ?_); rintro e wn2 ⟨rfl, hb2⟩)
          refine Seg.mk ?_
          have HW2 := Lib.hid (HW1.out.step hb2)
          clear hb2
          refine ask_late _ rfl ?_ ?_
          · refine ask_late _ rfl trivial ?_
            go_wp2_with fail
            refine Seg.mk ?_
            have HA3 := Lib.hid (HW2.out.made)
            have HW3 := Lib.hid (HW2.out.step ((Below.refl _ _).alloc (o := .cells #[.string ⟨#[]⟩, .int .i64 0, .int .i64 0, .int .i64 0, .int .i64 0] 24) (Nat.le_refl _)))
            generalize wn2.alloc _ = wn3 at HW3 HA3 ⊢
            generalize wn2.heap.size = g4 at HA3 ⊢
            refine ask_late _ rfl trivial ?_
            go_wp2_with (go_at_call 30; (with_reducible refine (R3.out _).mono ?_); rintro e wn4 ⟨rfl, hb4⟩)
            refine Seg.mk ?_
            have HW4 := Lib.hid (HW3.out.step hb4)
            have HA4 := Lib.hid (HA3.out.step hb4)
            clear hb4
            refine take_any _ ?_ rfl rfl ?_ (fun K hK => ?_); rotate_left; (intro w0; go_simp; (try rfl)); (go_simp; refine hK _ ?_; clear hK K)
            exact plan_meet [.pointer (some ⟨g4, 0, none⟩), .int .i64 na, .int .i64 nb, .int .i64 nz, .agg #[.string (s.extract 0 4), .int .i64 na, .int .i64 nb, .int .i64 0, .int .i64 nz]] ⟨g4, rfl, HA4.out, HW4.out⟩ (by simp only [puts, Act.put, List.setIfInBounds_toArray, List.set_cons_zero, List.set_cons_succ])
          · go_wp2_with (go_at_call 30; (with_reducible refine (R3.out _).mono ?_); rintro e wn3 ⟨rfl, hb3⟩)
            refine Seg.mk ?_
            have HW3 := Lib.hid (HW2.out.step hb3)
            clear hb3
            refine take_any _ ?_ rfl rfl ?_ (fun K hK => ?_); rotate_left; (intro w0; go_simp; (try rfl)); (go_simp; refine hK _ ?_; clear hK K)
            refine ask_late _ rfl trivial ?_
            go_wp2_with fail
            refine Seg.mk ?_
            have HA4 := Lib.hid (HW3.out.made)
            have HW4 := Lib.hid (HW3.out.step ((Below.refl _ _).alloc (o := .cells #[.string ⟨#[]⟩, .int .i64 0, .int .i64 0, .int .i64 0, .int .i64 0] 24) (Nat.le_refl _)))
            generalize wn3.alloc _ = wn4 at HW4 HA4 ⊢
            generalize wn3.heap.size = g4 at HA4 ⊢
            exact plan_meet [.pointer (some ⟨g4, 0, none⟩), .int .i64 na, .int .i64 nb, .int .i64 nz, .agg #[.string (s.extract 0 4), .int .i64 na, .int .i64 nb, .int .i64 0, .int .i64 nz]] ⟨g4, rfl, HA4.out, HW4.out⟩ (by simp only [puts, Act.put, List.setIfInBounds_toArray, List.set_cons_zero, List.set_cons_succ])
  · have HP := Lib.hid (pv_len hs)
    have q1 : ((s.size : Int) != 17) = true := by simp; omega
    have q2 : ((s.size : Int) == 17) = false := by simp; omega
    clear hs
    go_enter Tryd.func17, Tryd.ntmps17
    go_upto_region 1 with fail
    generalize w.alloc _ = w1 at b0 k0 ⊢
    have f0 := free_five k0
    have c0 := five_of k0
    have K0 := Lib.hid k0
    have B0 := Lib.hid b0
    clear k0 b0
    go_wp2
    refine ret_vers (x0 := .string ⟨#[]⟩) (x1 := .int .i64 0) (x2 := .int .i64 0) (x3 := .int .i64 0) (x4 := .int .i64 0) (v := .int .i64 10) K0.out rfl rfl rfl rfl ?_
    exact ⟨by unfold pvV pvE; rw [HP.out]; rfl, B0.out.grown (grown_set5 _ _ _ _ _ _ _) B0.out.size (fun k hk => by cases hk; exact Nat.le_refl _)⟩
end Go.Proofs.YtmlmdidaldcoiaaDoor
