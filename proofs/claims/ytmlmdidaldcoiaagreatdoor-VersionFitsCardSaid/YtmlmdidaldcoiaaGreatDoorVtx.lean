/- The texts of versions: the program's own. -/
import Derived.Test.YtmlmdidaldcoiaaGreatDoorVhx
import Derived.Lib.AtoiAllCases
namespace Go.Proofs.YtmlmdidaldcoiaaGreatDoor
open Go Go.Maps Go.ChangeShapes Go.WideShapes Go.ChangeAt Go.RowKit
set_option linter.unusedVariables false
set_option linter.unusedSimpArgs false

def bV (l : List UInt8) : ByteArray := ⟨l.toArray⟩
theorem bV_size (l : List UInt8) : (bV l).size = l.length := by show l.toArray.size = _; simp
theorem bV_of (s : ByteArray) : bV s.data.toList = s := by cases s; simp [bV]
theorem bV_app (a b : List UInt8) : bV a ++ bV b = bV (a ++ b) := by apply ByteArray.ext; simp [bV]
/-- The pieces of a text. -/
theorem vt_parts {v : VD} (h : validV v = true) : ∃ s1 s2 s3 s4 t1 t2 t3 t4 : ByteArray, s1 = bV (vhL 1 v.a.toNat) ∧ s2 = bV (vhL 1 v.b.toNat) ∧ s3 = bV (formL v.f) ∧ s4 = bV (vhL 6 v.z.toNat) ∧ v.p ++ s1 = t1 ∧ t1 ++ s2 = t2 ∧ t2 ++ s3 = t3 ∧ t3 ++ s4 = t4 ∧ t4 ++ ⟨#[95]⟩ = vtS v ∧ v.p.size = 4 ∧ s1.size = 1 ∧ s2.size = 1 ∧ s3.size = 4 ∧ s4.size = 6 ∧ t1.size = 5 ∧ t2.size = 6 ∧ t3.size = 10 ∧ t4.size = 16 := by
 obtain ⟨h1, h2, h3, h4, h5⟩ := validV_parts h
 have hp : v.p.size = 4 := by rw [← h1, Array.length_toList]; rfl
 have hf := (formL_len h2).1
 refine ⟨_, _, _, _, _, _, _, _, rfl, rfl, rfl, rfl, rfl, rfl, rfl, rfl, ?_, hp, ?_, ?_, ?_, ?_, ?_, ?_, ?_, ?_⟩
 ·unfold vtS
  rw [if_pos h]
  show _ = bV (textV v)
  unfold textV
  rw [← bV_app, ← bV_app, ← bV_app, ← bV_app, ← bV_app, bV_of]
  simp only [ByteArray.append_assoc]
  rfl
 all_goals simp only [ByteArray.size_append, bV_size, vhL_length, hf, hp]
/-- What Text's calls find: the text of a number. -/
theorem hext_z (z : Int) (k : Nat) (y : Int) (hy : (k : Int) = y) (h0 : 0 ≤ z) (h1 : z ≤ 16777215) (hk : z.toNat < 16 ^ k) (hk1 : 1 ≤ k) (hk6 : k ≤ 6) (w : World) (hT : DB w) : Calls Tryz.prog 36 #[.int .i64 z, .int .i64 y] w fun e w' => e = .returned (.string (bV (vhL k z.toNat))) ∧ Below w.heap.size w w' := by
 have := hext_any z.toNat k y hy (by omega) hk hk1 hk6 w hT
 rw [Int.toNat_of_nonneg h0] at this
 exact this
def FiveC (g : Nat) (v : VD) (w : World) : Prop := w.cell? ⟨g, 0, none⟩ = some (.string v.p) ∧ w.cell? ⟨g, 1, none⟩ = some (.int .i64 v.a) ∧ w.cell? ⟨g, 2, none⟩ = some (.int .i64 v.b) ∧ w.cell? ⟨g, 3, none⟩ = some (.int .i64 v.f) ∧ w.cell? ⟨g, 4, none⟩ = some (.int .i64 v.z)
theorem FiveC.below {g : Nat} {v : VD} {w w' : World} (h : FiveC g v w) (hb : Below w.heap.size w w') : FiveC g v w' := five_keep hb (cell_lt h.1) h
def TxPostV (v : VD) (w : World) (e : Ending) (w' : World) : Prop := e = .returned (.tuple #[.string (vtS v), .int .i64 (vtE v)]) ∧ Below w.heap.size w w'
set_option maxHeartbeats 6400000 in
set_option maxRecDepth 100000 in
theorem vertext_any (v : VD) (w : World) (hv : WideV v) (hT : DB w) : Calls Tryz.prog 17 #[.agg (vcs v)] w (TxPostV v w) := by
 have VA := Lib.hid (fun wx : World => vvalid_any v wx hv)
 have HT := Lib.hid hT
 unfold vcs at *
 have b0 := (Below.refl w.heap.size w).alloc (o := .cells #[.string v.p, .int .i64 v.a, .int .i64 v.b, .int .i64 v.f, .int .i64 v.z] 39) (Nat.le_refl _)
 have k0 := heap_alloc_new w (.cells #[.string v.p, .int .i64 v.a, .int .i64 v.b, .int .i64 v.f, .int .i64 v.z] 39)
 cases hval : validV v with
 | false =>
  rw [hval] at VA
  have HE : Hid (vtS v = ⟨#[]⟩ ∧ vtE v = 2) := Lib.hid (by unfold vtS vtE; rw [hval]; exact ⟨rfl, rfl⟩)
  clear hval hT hv
  go_enter Tryz.func17, Tryz.ntmps17
  go_upto_region 1 with fail
  generalize w.alloc _ = w1 at b0 k0 ⊢
  have hc := five_of k0
  have HB := Lib.hid b0
  clear b0 k0
  go_wp2_with (go_at_call 21; (with_reducible refine (VA.out _).mono ?_); rintro e w2 ⟨rfl, hb2⟩)
  go_ret2
  exact ⟨by rw [HE.out.1, HE.out.2]; rfl, HB.out.trans (hb2.mono HB.out.size)⟩
 | true =>
  rw [hval] at VA
  obtain ⟨s1, s2, s3, s4, t1, t2, t3, t4, e1, e2, e3, e4, c1, c2, c3, c4, c5, z0, z1, z2, z3, z4, y1, y2, y3, y4⟩ := vt_parts hval
  obtain ⟨-, hf, ha, hb, hz⟩ := validV_parts hval
  have HA : Hid (∀ wx, DB wx → Calls Tryz.prog 36 #[.int .i64 v.a, .int .i64 1] wx fun e w' => e = .returned (.string s1) ∧ Below wx.heap.size wx w') := Lib.hid fun wx h => by rw [e1]; exact hext_z v.a 1 1 rfl ha.1 (by omega) (by omega) (by decide) (by decide) wx h
  have HBB : Hid (∀ wx, DB wx → Calls Tryz.prog 36 #[.int .i64 v.b, .int .i64 1] wx fun e w' => e = .returned (.string s2) ∧ Below wx.heap.size wx w') := Lib.hid fun wx h => by rw [e2]; exact hext_z v.b 1 1 rfl hb.1 (by omega) (by omega) (by decide) (by decide) wx h
  have HZ : Hid (∀ wx, DB wx → Calls Tryz.prog 36 #[.int .i64 v.z, .int .i64 6] wx fun e w' => e = .returned (.string s4) ∧ Below wx.heap.size wx w') := Lib.hid fun wx h => by rw [e4]; exact hext_z v.z 6 6 rfl hz.1 (by omega) (by omega) (by decide) (by decide) wx h
  have FN := Lib.hid (fun wx : World => fnames_any wx)
  have HF := Lib.hid hv.f
  have E3 := Lib.hid e3
  have HE : Hid (t4 ++ ⟨#[95]⟩ = vtS v ∧ vtE v = 0) := Lib.hid ⟨c5, by unfold vtE; rw [hval]; rfl⟩
  have l1 : ¬ 9223372036854775807 < v.p.size + s1.size := by omega
  have l2 : ¬ 9223372036854775807 < t1.size + s2.size := by omega
  have l3 : ¬ 9223372036854775807 < t2.size + s3.size := by omega
  have l4 : ¬ 9223372036854775807 < t3.size + s4.size := by omega
  have l5 : ¬ 9223372036854775807 < t4.size + 1 := by omega
  clear hval hT hv e1 e2 e3 e4 c5 z0 z1 z2 z3 z4 y1 y2 y3 y4 ha hb hz hf
  go_enter Tryz.func17, Tryz.ntmps17
  go_upto_region 1 with fail
  generalize w.alloc _ = w1 at b0 k0 ⊢
  have hc := five_of k0
  have HB := Lib.hid b0
  have hF1 : FiveC w.heap.size v w1 := hc
  have HF1 := Lib.hid hF1
  clear b0 k0 hF1
  go_upto_region 3 with (go_at_call 21; (with_reducible refine (VA.out _).mono ?_); rintro e w2 ⟨rfl, hb2⟩)
  have hF2 := HF1.out.below hb2
  have HB2 := Lib.hid (HB.out.trans (hb2.mono HB.out.size))
  clear hb2 hc HB HF1 VA
  refine wp_region_plan (FiveC w.heap.size v) [1, 3, 7, 12, 16] (.take 0 (.take 1 (.take 2 (.take 3 (.take 6 (.take 7 (.take 11 (.take 12 (.take 15 (.take 16 (.ask 4 true (.take 5 (.ask 8 true (.take 9 (.ask 10 true (Plan.join true (.ask 13 true (.take 14 (.ask 17 true .stop .stop)) (.ask 17 true (.ask 13 true (.take 14 .stop) .stop) .stop)) (.ask 18 false (.take 19 (.take 20 (.take 21 .stop))) .stop)) .stop)) .stop)) .stop))))))))))) (by kernel_rfl) (by kernel_rfl) (fun _ d _ _ _ h => by cases d <;> exact h) (hF2.below ((Below.refl _ _).drew)) ?_
  have hF3 := hF2.below ((Below.refl w2.heap.size w2).drew)
  have HB3 := Lib.hid (HB2.out.trans (((Below.refl w2.heap.size w2).drew).mono HB2.out.size))
  generalize w2.drew = wd at hF3 HB3 ⊢
  have HF3 := Lib.hid hF3
  clear hF2 hF3 HB2
  refine take_any _ ?_ rfl rfl ?_ (fun K hK => ?_); rotate_left; (intro w0; go_simp; (try rfl)); (go_simp; refine hK _ ?_; clear hK K)
  refine take_held _ ?_ rfl rfl (by decide) ?_ (fun K hK => ?_); rotate_left; (intro w0 hw0; obtain ⟨q0, q1, q2, q3, q4⟩ := hw0; go_simp; (try rfl)); (go_simp; refine hK _ ?_; clear hK K)
  refine take_any _ ?_ rfl rfl ?_ (fun K hK => ?_); rotate_left; (intro w0; go_simp; (try rfl)); (go_simp; refine hK _ ?_; clear hK K)
  refine take_held _ ?_ rfl rfl (by decide) ?_ (fun K hK => ?_); rotate_left; (intro w0 hw0; obtain ⟨q0, q1, q2, q3, q4⟩ := hw0; go_simp; (try rfl)); (go_simp; refine hK _ ?_; clear hK K)
  refine take_any _ ?_ rfl rfl ?_ (fun K hK => ?_); rotate_left; (intro w0; go_simp; (try rfl)); (go_simp; refine hK _ ?_; clear hK K)
  refine take_held _ ?_ rfl rfl (by decide) ?_ (fun K hK => ?_); rotate_left; (intro w0 hw0; obtain ⟨q0, q1, q2, q3, q4⟩ := hw0; go_simp; (try rfl)); (go_simp; refine hK _ ?_; clear hK K)
  refine take_any _ ?_ rfl rfl ?_ (fun K hK => ?_); rotate_left; (intro w0; go_simp; (try rfl)); (go_simp; refine hK _ ?_; clear hK K)
  refine take_held _ ?_ rfl rfl (by decide) ?_ (fun K hK => ?_); rotate_left; (intro w0 hw0; obtain ⟨q0, q1, q2, q3, q4⟩ := hw0; go_simp; (try rfl)); (go_simp; refine hK _ ?_; clear hK K)
  refine take_any _ ?_ rfl rfl ?_ (fun K hK => ?_); rotate_left; (intro w0; go_simp; (try rfl)); (go_simp; refine hK _ ?_; clear hK K)
  refine take_held _ ?_ rfl rfl (by decide) ?_ (fun K hK => ?_); rotate_left; (intro w0 hw0; obtain ⟨q0, q1, q2, q3, q4⟩ := hw0; go_simp; (try rfl)); (go_simp; refine hK _ ?_; clear hK K)
  refine ask_step _ rfl trivial ?_; go_wp2_with (go_at_call 36; (with_reducible refine (HA.out _ (HT.out.below HB3.out)).mono ?_); rintro e w4 ⟨rfl, hb4⟩)
  have HF4 := Lib.hid (HF3.out.below hb4)
  have HB4 := Lib.hid (HB3.out.trans (hb4.mono HB3.out.size))
  refine Seg.mk ⟨HF4.out, ?_⟩
  clear hb4 HB3 HF3 HA
  refine take_any _ ?_ rfl rfl ?_ (fun K hK => ?_); rotate_left; (intro w0; go_simp; (try rfl)); (go_simp; refine hK _ ?_; clear hK K)
  refine ask_step _ rfl trivial ?_; go_wp2_with (go_at_call 36; (with_reducible refine (HBB.out _ (HT.out.below HB4.out)).mono ?_); rintro e w5 ⟨rfl, hb5⟩)
  have HF5 := Lib.hid (HF4.out.below hb5)
  have HB5 := Lib.hid (HB4.out.trans (hb5.mono HB4.out.size))
  refine Seg.mk ⟨HF5.out, ?_⟩
  clear hb5 HB4 HF4 HBB
  refine take_any _ ?_ rfl rfl ?_ (fun K hK => ?_); rotate_left; (intro w0; go_simp; (try rfl)); (go_simp; refine hK _ ?_; clear hK K)
  refine ask_step _ rfl trivial ?_; go_wp2_with (go_at_call 37; (with_reducible refine (FN.out _).mono ?_); rintro e w6 ⟨rfl, hl6, hb6⟩)
  have HF6 := Lib.hid (HF5.out.below hb6)
  have HB6 := Lib.hid (HB5.out.trans (hb6.mono HB5.out.size))
  have hl6s : w5.heap.size < w6.heap.size := hl6.lt
  refine Seg.mk ⟨HF6.out, ?_⟩
  have HL6 := Lib.hid hl6
  clear hb6 HB5 HF5 FN hl6
  generalize w5.heap.size = m at HL6 hl6s ⊢
  have LK : Hid (∀ wx, Fnames wx m → (Instr.lookup 67 (.map (some m)) (.int .i64 v.f) false).run Tryz.prog wx = .ok (.string s3) wx) := Lib.hid fun wx h => by rw [E3.out]; exact h.look1 HF.out.1 HF.out.2
  clear E3 HF
  refine plan_cut [20, 21, 24] (fun vs wx => vs = [.string s3, .string t3, .string s4] ∧ Below w.heap.size w wx) ?_ ?_
  rotate_left
  ·rintro vs w7 ⟨rfl, hb7⟩
   simp only [puts, Act.put, List.setIfInBounds_toArray, List.set_cons_zero, List.set_cons_succ]
   have HB7 := Lib.hid hb7
   clear hb7 HB6 HF6 HL6 LK HZ
   refine ask_late _ rfl trivial ?_; go_wp2_with fail; refine Seg.mk ?_
   refine take_any _ ?_ rfl rfl ?_ (fun K hK => ?_); rotate_left; (intro w0; go_simp; (try rfl)); (go_simp; refine hK _ ?_; clear hK K)
   refine take_any _ ?_ rfl rfl ?_ (fun K hK => ?_); rotate_left; (intro w0; go_simp; (try rfl)); (go_simp; refine hK _ ?_; clear hK K)
   refine take_any _ ?_ rfl rfl ?_ (fun K hK => ?_); rotate_left; (intro w0; go_simp; (try rfl)); (go_simp; refine hK _ ?_; clear hK K)
   unfold wpPlan
   go_wp2
   go_ret2
   exact ⟨by rw [← HE.out.1, HE.out.2]; rfl, HB7.out⟩
  ·refine ask_step _ rfl ?alt ?_
   rotate_left
   ·have hlk := LK.out _ HL6.out
    clear LK
    go_wp2_with fail
    refine Seg.mk ⟨HF6.out, ?_⟩
    clear hlk
    refine take_any _ ?_ rfl rfl ?_ (fun K hK => ?_); rotate_left; (intro w0; go_simp; (try rfl)); (go_simp; refine hK _ ?_; clear hK K)
    refine ask_step _ rfl trivial ?_; go_wp2_with (go_at_call 36; (with_reducible refine (HZ.out _ (HT.out.below HB6.out)).mono ?_); rintro e w7 ⟨rfl, hb7⟩)
    refine Seg.mk ⟨HF6.out.below hb7, ?_⟩
    exact plan_meet [.string s3, .string t3, .string s4] ⟨rfl, HB6.out.trans (hb7.mono HB6.out.size)⟩ rfl
   ·refine ask_step _ rfl trivial ?_; go_wp2_with (go_at_call 36; (with_reducible refine (HZ.out _ (HT.out.below HB6.out)).mono ?_); rintro e w7 ⟨rfl, hb7⟩)
    have HF7 := Lib.hid (HF6.out.below hb7)
    refine Seg.mk ⟨HF7.out, ?_⟩
    have hlk := LK.out _ (HL6.out.below hb7)
    have HB7 := Lib.hid (HB6.out.trans (hb7.mono HB6.out.size))
    clear LK hb7
    refine ask_step _ rfl trivial ?_; go_wp2_with fail
    refine Seg.mk ⟨HF7.out, ?_⟩
    clear hlk
    refine take_any _ ?_ rfl rfl ?_ (fun K hK => ?_); rotate_left; (intro w0; go_simp; (try rfl)); (go_simp; refine hK _ ?_; clear hK K)
    exact plan_meet [.string s3, .string t3, .string s4] ⟨rfl, HB7.out⟩ rfl
end Go.Proofs.YtmlmdidaldcoiaaGreatDoor
