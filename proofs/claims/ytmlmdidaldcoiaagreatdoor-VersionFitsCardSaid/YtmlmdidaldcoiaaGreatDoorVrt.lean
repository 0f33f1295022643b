/- The texts of versions: the document's own (printed by wip/gen/vrtx.py). -/
import Derived.Test.YtmlmdidaldcoiaaGreatDoorVra
namespace Go.Proofs.YtmlmdidaldcoiaaGreatDoor
open Go Go.Maps Go.ChangeShapes Go.WideShapes Go.ChangeAt Go.RowKit
set_option linter.unusedVariables false
set_option linter.unusedSimpArgs false

/-- Block g is the slice of the names of the serialisations. -/
def SlF (w : World) (g : Nat) : Prop := w.heap[g]? = some (.cells #[.string ⟨#[]⟩, .string ⟨#[74, 83, 79, 78]⟩, .string ⟨#[67, 66, 79, 82]⟩, .string ⟨#[77, 71, 80, 75]⟩] 9 (0, 0))
theorem SlF.below {w w' : World} {g : Nat} (h : SlF w g) (hb : Below w.heap.size w w') : SlF w' g := (hb.block _ (lt_of_block h)).trans h
theorem SlF.at {w : World} {g k : Nat} {s3 : ByteArray} (h : SlF w g) (hk : k = 1 ∨ k = 2 ∨ k = 3) (hs : s3 = bV (formL (k : Int))) : w.cell? ⟨g, k, none⟩ = some (.string s3) := by
 have h' : w.heap[g]? = some (.cells #[.string ⟨#[]⟩, .string ⟨#[74, 83, 79, 78]⟩, .string ⟨#[67, 66, 79, 82]⟩, .string ⟨#[77, 71, 80, 75]⟩] 9 (0, 0)) := h
 subst hs
 rcases hk with rfl | rfl | rfl <;> (simp [World.cell?, h']; rfl)
theorem rhext_z (z : Int) (k : Nat) (y : Int) (hy : (k : Int) = y) (h0 : 0 ≤ z) (h1 : z ≤ 16777215) (hk6 : k ≤ 6) (w : World) : Calls Tryz.prog 46 #[.int .i64 z, .int .i64 y] w fun e w' => e = .returned (.string (bV (vhL k z.toNat))) ∧ Below w.heap.size w w' := by
 have := rvhex_any z.toNat k y hy (by omega) hk6 w
 rw [Int.toNat_of_nonneg h0] at this
 exact this
def FiveR (g : Nat) (v : VD) (w : World) : Prop := w.cell? ⟨g, 0, none⟩ = some (.string v.p) ∧ w.cell? ⟨g, 1, none⟩ = some (.int .i64 v.a) ∧ w.cell? ⟨g, 2, none⟩ = some (.int .i64 v.b) ∧ w.cell? ⟨g, 3, none⟩ = some (.int .i64 v.f) ∧ w.cell? ⟨g, 4, none⟩ = some (.int .i64 v.z)
theorem FiveR.below {g : Nat} {v : VD} {w w' : World} (h : FiveR g v w) (hb : Below w.heap.size w w') : FiveR g v w' := five_keep hb (cell_lt h.1) h
/-- The cells of a version's block. -/
def FiveK (g : Nat) (p : ByteArray) (a b f z : Int) (w : World) : Prop := w.cell? ⟨g, 0, none⟩ = some (.string p) ∧ w.cell? ⟨g, 1, none⟩ = some (.int .i64 a) ∧ w.cell? ⟨g, 2, none⟩ = some (.int .i64 b) ∧ w.cell? ⟨g, 3, none⟩ = some (.int .i64 f) ∧ w.cell? ⟨g, 4, none⟩ = some (.int .i64 z)
theorem FiveK.below {g : Nat} {p : ByteArray} {a b f z : Int} {w w' : World} (h : FiveK g p a b f z w) (hb : Below w.heap.size w w') : FiveK g p a b f z w' := five_keep hb (cell_lt h.1) h
def RxPostV (v : VD) (w : World) (e : Ending) (w' : World) : Prop := e = .returned (.tuple #[.string (vtS v), .int .i64 (vtE v)]) ∧ Below w.heap.size w w'
set_option maxHeartbeats 12800000 in
set_option maxRecDepth 100000 in
theorem rvtext_any (v : VD) (w : World) : Calls Tryz.prog 26 #[.agg (vcs v)] w (RxPostV v w) := by
 have VA := Lib.hid (fun wx : World => rvvalid_any v wx)
 unfold vcs at *
 have b0 := (Below.refl w.heap.size w).alloc (o := .cells #[.string v.p, .int .i64 v.a, .int .i64 v.b, .int .i64 v.f, .int .i64 v.z] 39) (Nat.le_refl _)
 have k0 := heap_alloc_new w (.cells #[.string v.p, .int .i64 v.a, .int .i64 v.b, .int .i64 v.f, .int .i64 v.z] 39)
 cases hval : validV v with
 | false =>
  rw [hval] at VA
  have HE : Hid (vtS v = ⟨#[]⟩ ∧ vtE v = 2) := Lib.hid (by unfold vtS vtE; rw [hval]; exact ⟨rfl, rfl⟩)
  clear hval
  go_enter Tryz.func26, Tryz.ntmps26
  go_upto_region 1 with fail
  generalize w.alloc _ = w1 at b0 k0 ⊢
  have hc := five_of k0
  have HB := Lib.hid b0
  clear b0 k0
  go_wp2_with (go_at_call 45; (with_reducible refine (VA.out _).mono ?_); rintro e w2 ⟨rfl, hb2⟩)
  go_ret2
  exact ⟨by rw [HE.out.1, HE.out.2]; rfl, HB.out.trans (hb2.mono HB.out.size)⟩
 | true =>
  rw [hval] at VA
  obtain ⟨s1, s2, s3, s4, t1, t2, t3, t4, e1, e2, e3, e4, c1, c2, c3, c4, c5, z0, z1, z2, z3, z4, y1, y2, y3, y4⟩ := vt_parts hval
  obtain ⟨-, hf, ha, hb, hz⟩ := validV_parts hval
  have HA : Hid (∀ wx, Calls Tryz.prog 46 #[.int .i64 v.a, .int .i64 1] wx fun e w' => e = .returned (.string s1) ∧ Below wx.heap.size wx w') := Lib.hid fun wx => by rw [e1]; exact rhext_z v.a 1 1 rfl ha.1 (by omega) (by decide) wx
  have HBB : Hid (∀ wx, Calls Tryz.prog 46 #[.int .i64 v.b, .int .i64 1] wx fun e w' => e = .returned (.string s2) ∧ Below wx.heap.size wx w') := Lib.hid fun wx => by rw [e2]; exact rhext_z v.b 1 1 rfl hb.1 (by omega) (by decide) wx
  have HZ : Hid (∀ wx, Calls Tryz.prog 46 #[.int .i64 v.z, .int .i64 6] wx fun e w' => e = .returned (.string s4) ∧ Below wx.heap.size wx w') := Lib.hid fun wx => by rw [e4]; exact rhext_z v.z 6 6 rfl hz.1 (by omega) (by decide) wx
  obtain ⟨kf, hkv⟩ : ∃ kf : Nat, v.f = (kf : Int) := ⟨v.f.toNat, by omega⟩
  have hkf : kf = 1 ∨ kf = 2 ∨ kf = 3 := by omega
  have hs3 : s3 = bV (formL (kf : Int)) := by rw [e3, hkv]
  have HST := Lib.hid hs3
  have hk4 : (kf : Int) < 4 := by omega
  have hk0 : (0 : Int) ≤ (kf : Int) := by omega
  have HE : Hid (t4 ++ ⟨#[95]⟩ = vtS v ∧ vtE v = 0) := Lib.hid ⟨c5, by unfold vtE; rw [hval]; rfl⟩
  have l1 : ¬ 9223372036854775807 < v.p.size + s1.size := by omega
  have l2 : ¬ 9223372036854775807 < t1.size + s2.size := by omega
  have l3 : ¬ 9223372036854775807 < t2.size + s3.size := by omega
  have l4 : ¬ 9223372036854775807 < t3.size + s4.size := by omega
  have l5 : ¬ 9223372036854775807 < t4.size + 1 := by omega
  have HK := Lib.hid hkf
  clear hval e1 e2 e3 e4 c5 z0 z1 z2 z3 z4 y1 y2 y3 y4 ha hb hz hf hs3 hkf
  rw [hkv] at VA b0 k0 ⊢
  go_enter Tryz.func26, Tryz.ntmps26
  go_upto_region 1 with fail
  generalize w.alloc _ = w1 at b0 k0 ⊢
  have hc := five_of k0
  have HB := Lib.hid b0
  have hF1 : FiveR w.heap.size v w1 := by unfold FiveR; rw [hkv]; exact hc
  have HF1 := Lib.hid hF1
  clear b0 k0 hF1
  go_upto_region 3 with (go_at_call 45; (with_reducible refine (VA.out _).mono ?_); rintro e w2 ⟨rfl, hb2⟩)
  have hF2 := HF1.out.below hb2
  have HB2 := Lib.hid (HB.out.trans (hb2.mono HB.out.size))
  clear hb2 hc HB HF1 VA
  have hF3 := hF2.below ((Below.refl w2.heap.size w2).drew)
  have HB0 := Lib.hid (HB2.out.trans (((Below.refl w2.heap.size w2).drew).mono HB2.out.size))
  have FV : FiveR w.heap.size v = fun wx => wx.cell? ⟨w.heap.size, 0, none⟩ = some (.string v.p) ∧ wx.cell? ⟨w.heap.size, 1, none⟩ = some (.int .i64 v.a) ∧ wx.cell? ⟨w.heap.size, 2, none⟩ = some (.int .i64 v.b) ∧ wx.cell? ⟨w.heap.size, 3, none⟩ = some (.int .i64 (kf : Int)) ∧ wx.cell? ⟨w.heap.size, 4, none⟩ = some (.int .i64 v.z) := by funext wx; unfold FiveR; rw [hkv]
  rw [FV] at hF3
  refine wp_region_plan (fun wx => wx.cell? ⟨w.heap.size, 0, none⟩ = some (.string v.p) ∧ wx.cell? ⟨w.heap.size, 1, none⟩ = some (.int .i64 v.a) ∧ wx.cell? ⟨w.heap.size, 2, none⟩ = some (.int .i64 v.b) ∧ wx.cell? ⟨w.heap.size, 3, none⟩ = some (.int .i64 (kf : Int)) ∧ wx.cell? ⟨w.heap.size, 4, none⟩ = some (.int .i64 v.z)) [1, 3, 7, 12, 17] (.take 0 (.take 1 (.take 2 (.take 3 (.take 6 (.take 7 (.take 11 (.take 12 (.take 16 (.take 17 (Plan.join true (.ask 4 true (.take 5 (.ask 8 true (.take 9 (.ask 10 true (.take 13 (.ask 14 true (.take 15 (.ask 18 true .stop .stop)) (.ask 18 true (.ask 14 true (.take 15 .stop) .stop) .stop))) (.ask 18 true (.ask 10 true (.take 13 (.ask 14 true (.take 15 .stop) .stop)) .stop) .stop))) (.ask 10 true (.take 13 (.ask 8 true (.take 9 (.ask 14 true (.take 15 (.ask 18 true .stop .stop)) (.ask 18 true (.ask 14 true (.take 15 .stop) .stop) .stop))) (.ask 14 true (.ask 8 true (.take 9 (.take 15 (.ask 18 true .stop .stop))) .stop) .stop))) .stop))) (.ask 10 true (.take 13 (.ask 4 true (.take 5 (.ask 8 true (.take 9 (.ask 14 true (.take 15 (.ask 18 true .stop .stop)) (.ask 18 true (.ask 14 true (.take 15 .stop) .stop) .stop))) (.ask 14 true (.ask 8 true (.take 9 (.take 15 (.ask 18 true .stop .stop))) .stop) .stop))) (.ask 14 true (.ask 4 true (.take 5 (.ask 8 true (.take 9 (.take 15 (.ask 18 true .stop .stop))) .stop)) .stop) .stop))) .stop)) (.ask 19 false (.take 20 (.take 21 (.take 22 .stop))) .stop)))))))))))) (by kernel_rfl) (by kernel_rfl) (fun _ d _ _ _ h => by cases d <;> exact h) hF3 ?_
  generalize w2.drew = wn0 at hF3 HB0 ⊢
  have HF0 : Hid (FiveK w.heap.size v.p v.a v.b (kf : Int) v.z wn0) := Lib.hid hF3
  clear hF2 hF3 HB2 FV
  clear hkv
  refine take_any _ ?_ rfl rfl ?_ (fun K hK => ?_); rotate_left; (intro w0; go_simp; (try rfl)); (go_simp; refine hK _ ?_; clear hK K)
  refine take_held _ ?_ rfl rfl (by decide) ?_ (fun K hK => ?_); rotate_left; (intro w0 hw0; obtain ⟨q0, q1, q2, q3, q4⟩ := hw0; go_simp; (try rfl)); (go_simp; refine hK _ ?_; clear hK K)
  refine take_any _ ?_ rfl rfl ?_ (fun K hK => ?_); rotate_left; (intro w0; go_simp; (try rfl)); (go_simp; refine hK _ ?_; clear hK K)
  refine take_held _ ?_ rfl rfl (by decide) ?_ (fun K hK => ?_); rotate_left; (intro w0 hw0; obtain ⟨q0, q1, q2, q3, q4⟩ := hw0; go_simp; (try rfl)); (go_simp; refine hK _ ?_; clear hK K)
  refine take_any _ ?_ rfl rfl ?_ (fun K hK => ?_); rotate_left; (intro w0; go_simp; (try rfl)); (go_simp; refine hK _ ?_; clear hK K)
  refine take_held _ ?_ rfl rfl (by decide) ?_ (fun K hK => ?_); rotate_left; (intro w0 hw0; obtain ⟨q0, q1, q2, q3, q4⟩ := hw0; go_simp; (try rfl)); (go_simp; refine hK _ ?_; clear hK K)
  refine take_any _ ?_ rfl rfl ?_ (fun K hK => ?_); rotate_left; (intro w0; go_simp; (try rfl)); (go_simp; refine hK _ ?_; clear hK K)
  refine take_held _ ?_ rfl rfl (by decide) ?_ (fun K hK => ?_); rotate_left; (intro w0 hw0; obtain ⟨q0, q1, q2, q3, q4⟩ := hw0; go_simp; (try rfl)); (go_simp; refine hK _ ?_; clear hK K)
  refine take_any _ ?_ rfl rfl ?_ (fun K hK => ?_); rotate_left; (intro w0; go_simp; (try rfl)); (go_simp; refine hK _ ?_; clear hK K)
  refine take_held _ ?_ rfl rfl (by decide) ?_ (fun K hK => ?_); rotate_left; (intro w0 hw0; obtain ⟨q0, q1, q2, q3, q4⟩ := hw0; go_simp; (try rfl)); (go_simp; refine hK _ ?_; clear hK K)
  refine plan_cut [11, 12, 15, 16, 17, 20, 21, 22, 25] (fun vs wx => ∃ gs : Nat, vs = [.string s1, .string t1, .string s2, .string t2, .slice (some ⟨gs, 0, none⟩) 4 4, .pointer (some ⟨gs, kf, none⟩), .string s3, .string t3, .string s4] ∧ Below w.heap.size w wx) ?_ ?_
  rotate_left
  ·rintro vs wx ⟨gs, rfl, hbx⟩
   simp only [puts, Act.put, List.setIfInBounds_toArray, List.set_cons_zero, List.set_cons_succ]
   have HBX := Lib.hid hbx
   clear hbx HA HBB HZ HF0 HB0
   refine ask_late _ rfl trivial ?_; go_wp2_with fail; refine Seg.mk ?_
   refine take_any _ ?_ rfl rfl ?_ (fun K hK => ?_); rotate_left; (intro w0; go_simp; (try rfl)); (go_simp; refine hK _ ?_; clear hK K)
   refine take_any _ ?_ rfl rfl ?_ (fun K hK => ?_); rotate_left; (intro w0; go_simp; (try rfl)); (go_simp; refine hK _ ?_; clear hK K)
   refine take_any _ ?_ rfl rfl ?_ (fun K hK => ?_); rotate_left; (intro w0; go_simp; (try rfl)); (go_simp; refine hK _ ?_; clear hK K)
   unfold wpPlan
   go_wp2
   go_ret2
   exact ⟨by rw [← HE.out.1, HE.out.2]; rfl, HBX.out⟩
  ·refine ask_step _ rfl ?_ ?_
   ·refine ask_step _ rfl trivial ?_
    go_wp2_with fail
    have bb0 := (Below.refl wn0.heap.size wn0).alloc (o := .cells #[.string ⟨#[]⟩, .string ⟨#[74, 83, 79, 78]⟩, .string ⟨#[67, 66, 79, 82]⟩, .string ⟨#[77, 71, 80, 75]⟩] 9) (Nat.le_refl _)
    have HF1 := Lib.hid (HF0.out.below bb0)
    have HB1 := Lib.hid (HB0.out.trans (bb0.mono HB0.out.size))
    have HS1 : Hid (SlF (wn0.alloc (.cells #[.string ⟨#[]⟩, .string ⟨#[74, 83, 79, 78]⟩, .string ⟨#[67, 66, 79, 82]⟩, .string ⟨#[77, 71, 80, 75]⟩] 9)) wn0.heap.size) := Lib.hid (heap_alloc_new _ _)
    refine Seg.mk ⟨HF1.out, ?_⟩
    clear bb0
    generalize wn0.alloc _ = wn1 at HF1 HB1 HS1 ⊢
    generalize wn0.heap.size = gs at HS1 ⊢
    refine take_any _ ?_ rfl rfl ?_ (fun K hK => ?_); rotate_left; (intro w0; go_simp; (try rfl)); (go_simp; refine hK _ ?_; clear hK K)
    refine ask_step _ rfl ?_ ?_
    ·refine ask_step _ rfl trivial ?_
     have hcl := HS1.out.at HK.out HST.out
     go_wp2_with fail
     refine Seg.mk ⟨HF1.out, ?_⟩
     clear hcl
     refine ask_step _ rfl trivial ?_
     go_wp2_with (go_at_call 46; (with_reducible refine (HA.out _).mono ?_); rintro e wn2 ⟨rfl, hb2⟩)
     have HF2 := Lib.hid (HF1.out.below hb2)
     have HB2 := Lib.hid (HB1.out.trans (hb2.mono HB1.out.size))
     have HS2 := Lib.hid (HS1.out.below hb2)
     refine Seg.mk ⟨HF2.out, ?_⟩
     clear hb2
     refine take_any _ ?_ rfl rfl ?_ (fun K hK => ?_); rotate_left; (intro w0; go_simp; (try rfl)); (go_simp; refine hK _ ?_; clear hK K)
     refine ask_step _ rfl trivial ?_
     go_wp2_with (go_at_call 46; (with_reducible refine (HBB.out _).mono ?_); rintro e wn3 ⟨rfl, hb3⟩)
     have HF3 := Lib.hid (HF2.out.below hb3)
     have HB3 := Lib.hid (HB2.out.trans (hb3.mono HB2.out.size))
     have HS3 := Lib.hid (HS2.out.below hb3)
     refine Seg.mk ⟨HF3.out, ?_⟩
     clear hb3
     refine take_any _ ?_ rfl rfl ?_ (fun K hK => ?_); rotate_left; (intro w0; go_simp; (try rfl)); (go_simp; refine hK _ ?_; clear hK K)
     refine take_any _ ?_ rfl rfl ?_ (fun K hK => ?_); rotate_left; (intro w0; go_simp; (try rfl)); (go_simp; refine hK _ ?_; clear hK K)
     refine ask_step _ rfl trivial ?_
     go_wp2_with (go_at_call 46; (with_reducible refine (HZ.out _).mono ?_); rintro e wn4 ⟨rfl, hb4⟩)
     have HF4 := Lib.hid (HF3.out.below hb4)
     have HB4 := Lib.hid (HB3.out.trans (hb4.mono HB3.out.size))
     have HS4 := Lib.hid (HS3.out.below hb4)
     refine Seg.mk ⟨HF4.out, ?_⟩
     clear hb4
     exact plan_meet [.string s1, .string t1, .string s2, .string t2, .slice (some ⟨gs, 0, none⟩) 4 4, .pointer (some ⟨gs, kf, none⟩), .string s3, .string t3, .string s4] ⟨gs, rfl, HB4.out⟩ (by simp only [puts, Act.put, List.setIfInBounds_toArray, List.set_cons_zero, List.set_cons_succ])
    ·go_wp2_with (go_at_call 46; (with_reducible refine (HA.out _).mono ?_); rintro e wn2 ⟨rfl, hb2⟩)
     have HF2 := Lib.hid (HF1.out.below hb2)
     have HB2 := Lib.hid (HB1.out.trans (hb2.mono HB1.out.size))
     have HS2 := Lib.hid (HS1.out.below hb2)
     refine Seg.mk ⟨HF2.out, ?_⟩
     clear hb2
     refine take_any _ ?_ rfl rfl ?_ (fun K hK => ?_); rotate_left; (intro w0; go_simp; (try rfl)); (go_simp; refine hK _ ?_; clear hK K)
     refine ask_step _ rfl ?_ ?_
     ·refine ask_step _ rfl trivial ?_
      have hcl := HS2.out.at HK.out HST.out
      go_wp2_with fail
      refine Seg.mk ⟨HF2.out, ?_⟩
      clear hcl
      refine ask_step _ rfl trivial ?_
      go_wp2_with (go_at_call 46; (with_reducible refine (HBB.out _).mono ?_); rintro e wn3 ⟨rfl, hb3⟩)
      have HF3 := Lib.hid (HF2.out.below hb3)
      have HB3 := Lib.hid (HB2.out.trans (hb3.mono HB2.out.size))
      have HS3 := Lib.hid (HS2.out.below hb3)
      refine Seg.mk ⟨HF3.out, ?_⟩
      clear hb3
      refine take_any _ ?_ rfl rfl ?_ (fun K hK => ?_); rotate_left; (intro w0; go_simp; (try rfl)); (go_simp; refine hK _ ?_; clear hK K)
      refine take_any _ ?_ rfl rfl ?_ (fun K hK => ?_); rotate_left; (intro w0; go_simp; (try rfl)); (go_simp; refine hK _ ?_; clear hK K)
      refine ask_step _ rfl trivial ?_
      go_wp2_with (go_at_call 46; (with_reducible refine (HZ.out _).mono ?_); rintro e wn4 ⟨rfl, hb4⟩)
      have HF4 := Lib.hid (HF3.out.below hb4)
      have HB4 := Lib.hid (HB3.out.trans (hb4.mono HB3.out.size))
      have HS4 := Lib.hid (HS3.out.below hb4)
      refine Seg.mk ⟨HF4.out, ?_⟩
      clear hb4
      exact plan_meet [.string s1, .string t1, .string s2, .string t2, .slice (some ⟨gs, 0, none⟩) 4 4, .pointer (some ⟨gs, kf, none⟩), .string s3, .string t3, .string s4] ⟨gs, rfl, HB4.out⟩ (by simp only [puts, Act.put, List.setIfInBounds_toArray, List.set_cons_zero, List.set_cons_succ])
     ·go_wp2_with (go_at_call 46; (with_reducible refine (HBB.out _).mono ?_); rintro e wn3 ⟨rfl, hb3⟩)
      have HF3 := Lib.hid (HF2.out.below hb3)
      have HB3 := Lib.hid (HB2.out.trans (hb3.mono HB2.out.size))
      have HS3 := Lib.hid (HS2.out.below hb3)
      refine Seg.mk ⟨HF3.out, ?_⟩
      clear hb3
      refine take_any _ ?_ rfl rfl ?_ (fun K hK => ?_); rotate_left; (intro w0; go_simp; (try rfl)); (go_simp; refine hK _ ?_; clear hK K)
      refine ask_step _ rfl ?_ ?_
      ·refine ask_step _ rfl trivial ?_
       go_wp2_with (go_at_call 46; (with_reducible refine (HZ.out _).mono ?_); rintro e wn4 ⟨rfl, hb4⟩)
       have HF4 := Lib.hid (HF3.out.below hb4)
       have HB4 := Lib.hid (HB3.out.trans (hb4.mono HB3.out.size))
       have HS4 := Lib.hid (HS3.out.below hb4)
       refine Seg.mk ⟨HF4.out, ?_⟩
       clear hb4
       refine ask_step _ rfl trivial ?_
       have hcl := HS4.out.at HK.out HST.out
       go_wp2_with fail
       refine Seg.mk ⟨HF4.out, ?_⟩
       clear hcl
       refine take_any _ ?_ rfl rfl ?_ (fun K hK => ?_); rotate_left; (intro w0; go_simp; (try rfl)); (go_simp; refine hK _ ?_; clear hK K)
       exact plan_meet [.string s1, .string t1, .string s2, .string t2, .slice (some ⟨gs, 0, none⟩) 4 4, .pointer (some ⟨gs, kf, none⟩), .string s3, .string t3, .string s4] ⟨gs, rfl, HB4.out⟩ (by simp only [puts, Act.put, List.setIfInBounds_toArray, List.set_cons_zero, List.set_cons_succ])
      ·have hcl := HS3.out.at HK.out HST.out
       go_wp2_with fail
       refine Seg.mk ⟨HF3.out, ?_⟩
       clear hcl
       refine take_any _ ?_ rfl rfl ?_ (fun K hK => ?_); rotate_left; (intro w0; go_simp; (try rfl)); (go_simp; refine hK _ ?_; clear hK K)
       refine ask_step _ rfl trivial ?_
       go_wp2_with (go_at_call 46; (with_reducible refine (HZ.out _).mono ?_); rintro e wn4 ⟨rfl, hb4⟩)
       have HF4 := Lib.hid (HF3.out.below hb4)
       have HB4 := Lib.hid (HB3.out.trans (hb4.mono HB3.out.size))
       have HS4 := Lib.hid (HS3.out.below hb4)
       refine Seg.mk ⟨HF4.out, ?_⟩
       clear hb4
       exact plan_meet [.string s1, .string t1, .string s2, .string t2, .slice (some ⟨gs, 0, none⟩) 4 4, .pointer (some ⟨gs, kf, none⟩), .string s3, .string t3, .string s4] ⟨gs, rfl, HB4.out⟩ (by simp only [puts, Act.put, List.setIfInBounds_toArray, List.set_cons_zero, List.set_cons_succ])
   ·go_wp2_with (go_at_call 46; (with_reducible refine (HA.out _).mono ?_); rintro e wn1 ⟨rfl, hb1⟩)
    have HF1 := Lib.hid (HF0.out.below hb1)
    have HB1 := Lib.hid (HB0.out.trans (hb1.mono HB0.out.size))
    refine Seg.mk ⟨HF1.out, ?_⟩
    clear hb1
    refine take_any _ ?_ rfl rfl ?_ (fun K hK => ?_); rotate_left; (intro w0; go_simp; (try rfl)); (go_simp; refine hK _ ?_; clear hK K)
    refine ask_step _ rfl ?_ ?_
    ·refine ask_step _ rfl trivial ?_
     go_wp2_with fail
     have bb1 := (Below.refl wn1.heap.size wn1).alloc (o := .cells #[.string ⟨#[]⟩, .string ⟨#[74, 83, 79, 78]⟩, .string ⟨#[67, 66, 79, 82]⟩, .string ⟨#[77, 71, 80, 75]⟩] 9) (Nat.le_refl _)
     have HF2 := Lib.hid (HF1.out.below bb1)
     have HB2 := Lib.hid (HB1.out.trans (bb1.mono HB1.out.size))
     have HS2 : Hid (SlF (wn1.alloc (.cells #[.string ⟨#[]⟩, .string ⟨#[74, 83, 79, 78]⟩, .string ⟨#[67, 66, 79, 82]⟩, .string ⟨#[77, 71, 80, 75]⟩] 9)) wn1.heap.size) := Lib.hid (heap_alloc_new _ _)
     refine Seg.mk ⟨HF2.out, ?_⟩
     clear bb1
     generalize wn1.alloc _ = wn2 at HF2 HB2 HS2 ⊢
     generalize wn1.heap.size = gs at HS2 ⊢
     refine take_any _ ?_ rfl rfl ?_ (fun K hK => ?_); rotate_left; (intro w0; go_simp; (try rfl)); (go_simp; refine hK _ ?_; clear hK K)
     refine ask_step _ rfl ?_ ?_
     ·refine ask_step _ rfl trivial ?_
      have hcl := HS2.out.at HK.out HST.out
      go_wp2_with fail
      refine Seg.mk ⟨HF2.out, ?_⟩
      clear hcl
      refine ask_step _ rfl trivial ?_
      go_wp2_with (go_at_call 46; (with_reducible refine (HBB.out _).mono ?_); rintro e wn3 ⟨rfl, hb3⟩)
      have HF3 := Lib.hid (HF2.out.below hb3)
      have HB3 := Lib.hid (HB2.out.trans (hb3.mono HB2.out.size))
      have HS3 := Lib.hid (HS2.out.below hb3)
      refine Seg.mk ⟨HF3.out, ?_⟩
      clear hb3
      refine take_any _ ?_ rfl rfl ?_ (fun K hK => ?_); rotate_left; (intro w0; go_simp; (try rfl)); (go_simp; refine hK _ ?_; clear hK K)
      refine take_any _ ?_ rfl rfl ?_ (fun K hK => ?_); rotate_left; (intro w0; go_simp; (try rfl)); (go_simp; refine hK _ ?_; clear hK K)
      refine ask_step _ rfl trivial ?_
      go_wp2_with (go_at_call 46; (with_reducible refine (HZ.out _).mono ?_); rintro e wn4 ⟨rfl, hb4⟩)
      have HF4 := Lib.hid (HF3.out.below hb4)
      have HB4 := Lib.hid (HB3.out.trans (hb4.mono HB3.out.size))
      have HS4 := Lib.hid (HS3.out.below hb4)
      refine Seg.mk ⟨HF4.out, ?_⟩
      clear hb4
      exact plan_meet [.string s1, .string t1, .string s2, .string t2, .slice (some ⟨gs, 0, none⟩) 4 4, .pointer (some ⟨gs, kf, none⟩), .string s3, .string t3, .string s4] ⟨gs, rfl, HB4.out⟩ (by simp only [puts, Act.put, List.setIfInBounds_toArray, List.set_cons_zero, List.set_cons_succ])
     ·go_wp2_with (go_at_call 46; (with_reducible refine (HBB.out _).mono ?_); rintro e wn3 ⟨rfl, hb3⟩)
      have HF3 := Lib.hid (HF2.out.below hb3)
      have HB3 := Lib.hid (HB2.out.trans (hb3.mono HB2.out.size))
      have HS3 := Lib.hid (HS2.out.below hb3)
      refine Seg.mk ⟨HF3.out, ?_⟩
      clear hb3
      refine take_any _ ?_ rfl rfl ?_ (fun K hK => ?_); rotate_left; (intro w0; go_simp; (try rfl)); (go_simp; refine hK _ ?_; clear hK K)
      refine ask_step _ rfl ?_ ?_
      ·refine ask_step _ rfl trivial ?_
       go_wp2_with (go_at_call 46; (with_reducible refine (HZ.out _).mono ?_); rintro e wn4 ⟨rfl, hb4⟩)
       have HF4 := Lib.hid (HF3.out.below hb4)
       have HB4 := Lib.hid (HB3.out.trans (hb4.mono HB3.out.size))
       have HS4 := Lib.hid (HS3.out.below hb4)
       refine Seg.mk ⟨HF4.out, ?_⟩
       clear hb4
       refine ask_step _ rfl trivial ?_
       have hcl := HS4.out.at HK.out HST.out
       go_wp2_with fail
       refine Seg.mk ⟨HF4.out, ?_⟩
       clear hcl
       refine take_any _ ?_ rfl rfl ?_ (fun K hK => ?_); rotate_left; (intro w0; go_simp; (try rfl)); (go_simp; refine hK _ ?_; clear hK K)
       exact plan_meet [.string s1, .string t1, .string s2, .string t2, .slice (some ⟨gs, 0, none⟩) 4 4, .pointer (some ⟨gs, kf, none⟩), .string s3, .string t3, .string s4] ⟨gs, rfl, HB4.out⟩ (by simp only [puts, Act.put, List.setIfInBounds_toArray, List.set_cons_zero, List.set_cons_succ])
      ·have hcl := HS3.out.at HK.out HST.out
       go_wp2_with fail
       refine Seg.mk ⟨HF3.out, ?_⟩
       clear hcl
       refine take_any _ ?_ rfl rfl ?_ (fun K hK => ?_); rotate_left; (intro w0; go_simp; (try rfl)); (go_simp; refine hK _ ?_; clear hK K)
       refine ask_step _ rfl trivial ?_
       go_wp2_with (go_at_call 46; (with_reducible refine (HZ.out _).mono ?_); rintro e wn4 ⟨rfl, hb4⟩)
       have HF4 := Lib.hid (HF3.out.below hb4)
       have HB4 := Lib.hid (HB3.out.trans (hb4.mono HB3.out.size))
       have HS4 := Lib.hid (HS3.out.below hb4)
       refine Seg.mk ⟨HF4.out, ?_⟩
       clear hb4
       exact plan_meet [.string s1, .string t1, .string s2, .string t2, .slice (some ⟨gs, 0, none⟩) 4 4, .pointer (some ⟨gs, kf, none⟩), .string s3, .string t3, .string s4] ⟨gs, rfl, HB4.out⟩ (by simp only [puts, Act.put, List.setIfInBounds_toArray, List.set_cons_zero, List.set_cons_succ])
    ·go_wp2_with (go_at_call 46; (with_reducible refine (HBB.out _).mono ?_); rintro e wn2 ⟨rfl, hb2⟩)
     have HF2 := Lib.hid (HF1.out.below hb2)
     have HB2 := Lib.hid (HB1.out.trans (hb2.mono HB1.out.size))
     refine Seg.mk ⟨HF2.out, ?_⟩
     clear hb2
     refine take_any _ ?_ rfl rfl ?_ (fun K hK => ?_); rotate_left; (intro w0; go_simp; (try rfl)); (go_simp; refine hK _ ?_; clear hK K)
     refine ask_step _ rfl ?_ ?_
     ·refine ask_step _ rfl trivial ?_
      go_wp2_with (go_at_call 46; (with_reducible refine (HZ.out _).mono ?_); rintro e wn3 ⟨rfl, hb3⟩)
      have HF3 := Lib.hid (HF2.out.below hb3)
      have HB3 := Lib.hid (HB2.out.trans (hb3.mono HB2.out.size))
      refine Seg.mk ⟨HF3.out, ?_⟩
      clear hb3
      refine ask_step _ rfl trivial ?_
      go_wp2_with fail
      have bb3 := (Below.refl wn3.heap.size wn3).alloc (o := .cells #[.string ⟨#[]⟩, .string ⟨#[74, 83, 79, 78]⟩, .string ⟨#[67, 66, 79, 82]⟩, .string ⟨#[77, 71, 80, 75]⟩] 9) (Nat.le_refl _)
      have HF4 := Lib.hid (HF3.out.below bb3)
      have HB4 := Lib.hid (HB3.out.trans (bb3.mono HB3.out.size))
      have HS4 : Hid (SlF (wn3.alloc (.cells #[.string ⟨#[]⟩, .string ⟨#[74, 83, 79, 78]⟩, .string ⟨#[67, 66, 79, 82]⟩, .string ⟨#[77, 71, 80, 75]⟩] 9)) wn3.heap.size) := Lib.hid (heap_alloc_new _ _)
      refine Seg.mk ⟨HF4.out, ?_⟩
      clear bb3
      generalize wn3.alloc _ = wn4 at HF4 HB4 HS4 ⊢
      generalize wn3.heap.size = gs at HS4 ⊢
      refine take_any _ ?_ rfl rfl ?_ (fun K hK => ?_); rotate_left; (intro w0; go_simp; (try rfl)); (go_simp; refine hK _ ?_; clear hK K)
      refine ask_step _ rfl trivial ?_
      have hcl := HS4.out.at HK.out HST.out
      go_wp2_with fail
      refine Seg.mk ⟨HF4.out, ?_⟩
      clear hcl
      refine take_any _ ?_ rfl rfl ?_ (fun K hK => ?_); rotate_left; (intro w0; go_simp; (try rfl)); (go_simp; refine hK _ ?_; clear hK K)
      exact plan_meet [.string s1, .string t1, .string s2, .string t2, .slice (some ⟨gs, 0, none⟩) 4 4, .pointer (some ⟨gs, kf, none⟩), .string s3, .string t3, .string s4] ⟨gs, rfl, HB4.out⟩ (by simp only [puts, Act.put, List.setIfInBounds_toArray, List.set_cons_zero, List.set_cons_succ])
     ·go_wp2_with fail
      have bb2 := (Below.refl wn2.heap.size wn2).alloc (o := .cells #[.string ⟨#[]⟩, .string ⟨#[74, 83, 79, 78]⟩, .string ⟨#[67, 66, 79, 82]⟩, .string ⟨#[77, 71, 80, 75]⟩] 9) (Nat.le_refl _)
      have HF3 := Lib.hid (HF2.out.below bb2)
      have HB3 := Lib.hid (HB2.out.trans (bb2.mono HB2.out.size))
      have HS3 : Hid (SlF (wn2.alloc (.cells #[.string ⟨#[]⟩, .string ⟨#[74, 83, 79, 78]⟩, .string ⟨#[67, 66, 79, 82]⟩, .string ⟨#[77, 71, 80, 75]⟩] 9)) wn2.heap.size) := Lib.hid (heap_alloc_new _ _)
      refine Seg.mk ⟨HF3.out, ?_⟩
      clear bb2
      generalize wn2.alloc _ = wn3 at HF3 HB3 HS3 ⊢
      generalize wn2.heap.size = gs at HS3 ⊢
      refine take_any _ ?_ rfl rfl ?_ (fun K hK => ?_); rotate_left; (intro w0; go_simp; (try rfl)); (go_simp; refine hK _ ?_; clear hK K)
      refine ask_step _ rfl ?_ ?_
      ·refine ask_step _ rfl trivial ?_
       go_wp2_with (go_at_call 46; (with_reducible refine (HZ.out _).mono ?_); rintro e wn4 ⟨rfl, hb4⟩)
       have HF4 := Lib.hid (HF3.out.below hb4)
       have HB4 := Lib.hid (HB3.out.trans (hb4.mono HB3.out.size))
       have HS4 := Lib.hid (HS3.out.below hb4)
       refine Seg.mk ⟨HF4.out, ?_⟩
       clear hb4
       refine ask_step _ rfl trivial ?_
       have hcl := HS4.out.at HK.out HST.out
       go_wp2_with fail
       refine Seg.mk ⟨HF4.out, ?_⟩
       clear hcl
       refine take_any _ ?_ rfl rfl ?_ (fun K hK => ?_); rotate_left; (intro w0; go_simp; (try rfl)); (go_simp; refine hK _ ?_; clear hK K)
       exact plan_meet [.string s1, .string t1, .string s2, .string t2, .slice (some ⟨gs, 0, none⟩) 4 4, .pointer (some ⟨gs, kf, none⟩), .string s3, .string t3, .string s4] ⟨gs, rfl, HB4.out⟩ (by simp only [puts, Act.put, List.setIfInBounds_toArray, List.set_cons_zero, List.set_cons_succ])
      ·have hcl := HS3.out.at HK.out HST.out
       go_wp2_with fail
       refine Seg.mk ⟨HF3.out, ?_⟩
       clear hcl
       refine take_any _ ?_ rfl rfl ?_ (fun K hK => ?_); rotate_left; (intro w0; go_simp; (try rfl)); (go_simp; refine hK _ ?_; clear hK K)
       refine ask_step _ rfl trivial ?_
       go_wp2_with (go_at_call 46; (with_reducible refine (HZ.out _).mono ?_); rintro e wn4 ⟨rfl, hb4⟩)
       have HF4 := Lib.hid (HF3.out.below hb4)
       have HB4 := Lib.hid (HB3.out.trans (hb4.mono HB3.out.size))
       have HS4 := Lib.hid (HS3.out.below hb4)
       refine Seg.mk ⟨HF4.out, ?_⟩
       clear hb4
       exact plan_meet [.string s1, .string t1, .string s2, .string t2, .slice (some ⟨gs, 0, none⟩) 4 4, .pointer (some ⟨gs, kf, none⟩), .string s3, .string t3, .string s4] ⟨gs, rfl, HB4.out⟩ (by simp only [puts, Act.put, List.setIfInBounds_toArray, List.set_cons_zero, List.set_cons_succ])
end Go.Proofs.YtmlmdidaldcoiaaGreatDoor
