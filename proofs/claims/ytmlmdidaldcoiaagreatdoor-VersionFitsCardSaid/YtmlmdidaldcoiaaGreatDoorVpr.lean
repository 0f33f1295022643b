/- Which versions are valid: the program's own. -/
import Derived.Test.YtmlmdidaldcoiaaGreatDoorVfm
import Derived.Test.YtmlmdidaldcoiaaGreatDoorPlan
import Derived.Laws.RangeString
import Derived.Laws.RangeAny
import Derived.Laws.Runes
import Derived.Deep.LoopGhost
import Derived.Lib.IndexBytes
import Derived.Lib.ValidLaws
namespace Go.Proofs.YtmlmdidaldcoiaaGreatDoor
open Go Go.Maps Go.ChangeShapes Go.WideShapes Go.ChangeAt Go.RowKit
set_option linter.unusedVariables false
set_option linter.unusedSimpArgs false

/-! blocks of five cells -/
theorem vgrown_set (w : World) (g j : Nat) (v : Value) : w.grownBy (w.setCell ⟨g, j, none⟩ v) (some g) :=
 ⟨rfl, rfl, rfl, by simp, fun i hi hne => heap_setCell_other w ⟨g, j, none⟩ i v (show i ≠ g from fun e => hne (by rw [e]))⟩
section
variable {w : World} {g : Nat} {a b c d e : Value} {T : TypeId}
theorem five_of (h : w.heap[g]? = some (.cells #[a, b, c, d, e] T (0, 0))) : w.cell? ⟨g, 0, none⟩ = some a ∧ w.cell? ⟨g, 1, none⟩ = some b ∧ w.cell? ⟨g, 2, none⟩ = some c ∧ w.cell? ⟨g, 3, none⟩ = some d ∧ w.cell? ⟨g, 4, none⟩ = some e := by
 simp [World.cell?, h]
theorem free_five (h : w.heap[g]? = some (.cells #[a, b, c, d, e] T (0, 0))) : w.frozen? ⟨g, 0, none⟩ = false ∧ w.frozen? ⟨g, 1, none⟩ = false ∧ w.frozen? ⟨g, 2, none⟩ = false ∧ w.frozen? ⟨g, 3, none⟩ = false ∧ w.frozen? ⟨g, 4, none⟩ = false := by
 simp [World.frozen?, h]
theorem five_keep {w' : World} {B : Nat} (hb : Below B w w') (hg : g < B) (h : w.cell? ⟨g, 0, none⟩ = some a ∧ w.cell? ⟨g, 1, none⟩ = some b ∧ w.cell? ⟨g, 2, none⟩ = some c ∧ w.cell? ⟨g, 3, none⟩ = some d ∧ w.cell? ⟨g, 4, none⟩ = some e) : w'.cell? ⟨g, 0, none⟩ = some a ∧ w'.cell? ⟨g, 1, none⟩ = some b ∧ w'.cell? ⟨g, 2, none⟩ = some c ∧ w'.cell? ⟨g, 3, none⟩ = some d ∧ w'.cell? ⟨g, 4, none⟩ = some e :=
 ⟨(hb.cell (p := ⟨g, 0, none⟩) hg).trans h.1, (hb.cell (p := ⟨g, 1, none⟩) hg).trans h.2.1, (hb.cell (p := ⟨g, 2, none⟩) hg).trans h.2.2.1, (hb.cell (p := ⟨g, 3, none⟩) hg).trans h.2.2.2.1, (hb.cell (p := ⟨g, 4, none⟩) hg).trans h.2.2.2.2⟩
def set5 (w : World) (g : Nat) (a b c d e : Value) : World := ((((w.setCell ⟨g, 0, none⟩ a).setCell ⟨g, 1, none⟩ b).setCell ⟨g, 2, none⟩ c).setCell ⟨g, 3, none⟩ d).setCell ⟨g, 4, none⟩ e
end
/-- The cells of a version. -/
def vcs (v : VD) : Array Value := #[.string v.p, .int .i64 v.a, .int .i64 v.b, .int .i64 v.f, .int .i64 v.z]
/-- All numbers of a version are what an int holds. -/
def wI (z : Int) : Prop := -9223372036854775808 ≤ z ∧ z ≤ 9223372036854775807
structure WideV (v : VD) : Prop where
 a : wI v.a
 b : wI v.b
 f : wI v.f
 z : wI v.z
set_option maxRecDepth 100000 in
theorem vwithin_any (z m : Int) (w : World) : Calls Tryz.prog 39 #[.int .i64 z, .int .i64 m] w fun e w' => e = .returned (.bool (inR z m)) ∧ w = w' := by
 go_enter Tryz.func39, Tryz.ntmps39
 by_cases h0 : 0 ≤ z
 ·by_cases h1 : z ≤ m
  ·have E : Hid (inR z m = true) := Lib.hid (by unfold inR; rw [decide_eq_true h0, decide_eq_true h1]; rfl)
   go_wp2
   go_ret
   exact ⟨by rw [E.out]; rfl, rfl⟩
  ·have E : Hid (inR z m = false) := Lib.hid (by unfold inR; rw [decide_eq_true h0, decide_eq_false h1]; rfl)
   go_wp2
   go_ret
   exact ⟨by rw [E.out]; rfl, rfl⟩
 ·have E : Hid (inR z m = false) := Lib.hid (by unfold inR; rw [decide_eq_false h0]; rfl)
  go_wp2
  go_ret
  exact ⟨by rw [E.out]; rfl, rfl⟩
theorem capL_snoc (l : List UInt8) : capL l = (decide (l.length = 4) && l.all fun c => decide (65 ≤ c.toNat) && decide (c.toNat ≤ 90)) := rfl
theorem vdecN_high (n b0 b1 b2 b3 : Nat) (hn : 1 ≤ n) (h0 : 128 ≤ b0) : 128 ≤ (Lib.decodeN n b0 b1 b2 b3).1 := by
 unfold Lib.decodeN
 rw [if_neg (by omega)]
 split
 ·split
  ·assumption
  ·decide
 ·split
  ·split
   ·show 128 ≤ _; omega
   ·decide
  ·split
   ·split
    ·show 128 ≤ _; omega
    ·decide
   ·decide
theorem cap_no {l : List UInt8} {c : UInt8} {i : Nat} (h : l[i]? = some c) (hc : ¬ (65 ≤ c.toNat ∧ c.toNat ≤ 90)) : capL l = false := by
 unfold capL
 rw [Bool.and_eq_false_iff]
 refine .inr ?_
 rw [List.all_eq_false]
 refine ⟨c, List.mem_of_getElem? h, ?_⟩
 intro e
 rw [Bool.and_eq_true, decide_eq_true_eq, decide_eq_true_eq] at e
 exact hc e
set_option maxHeartbeats 1600000 in
set_option maxRecDepth 100000 in
theorem vprot_any (s : ByteArray) (w : World) : Calls Tryz.prog 38 #[.string s] w fun e w' => e = .returned (.bool (capL s.data.toList)) ∧ Below w.heap.size w w' := by
 have hl : s.data.toList.length = s.size := by rw [Array.length_toList]; rfl
 go_enter Tryz.func38, Tryz.ntmps38
 go_upto_region 2 with fail
 go_loopg [4] s.size (fun g _ wx => ∃ i : Nat, i + g = s.size ∧ wx = w.iter s i ∧ Hid ((s.data.toList.take i).all (fun c => decide (65 ≤ c.toNat) && decide (c.toNat ≤ 90)) = true))
 case atStart => exact ⟨0, by omega, rfl, Lib.hid rfl⟩
 case round =>
  obtain ⟨i, hig, rfl, hA⟩ := hrel
  cases gk with
  | zero =>
   obtain rfl : i = s.size := by omega
   have hnx := run_next_end (P := Tryz.prog) w s s.size
   have hA2 := hA.out
   rw [List.take_of_length_le (by omega)] at hA2
   have hcap : Hid (capL s.data.toList = decide (s.size = 4)) := Lib.hid (by rw [capL_snoc, hA2, hl, Bool.and_true])
   clear hA hA2 hl
   by_cases h4 : s.size = 4
   ·have q1 : ((s.size : Int) == 4) = true := by rw [h4]; rfl
    have E : Hid (capL s.data.toList = true) := Lib.hid (by rw [hcap.out, decide_eq_true h4])
    clear h4 hcap
    go_wp2
    go_ret
    exact ⟨by rw [E.out]; rfl, (Below.refl _ _).alloc (Nat.le_refl _) _⟩
   ·have q1 : ((s.size : Int) == 4) = false := by simp; omega
    have E : Hid (capL s.data.toList = false) := Lib.hid (by rw [hcap.out, decide_eq_false h4])
    clear h4 hcap
    go_wp2
    go_ret
    exact ⟨by rw [E.out]; rfl, (Below.refl _ _).alloc (Nat.le_refl _) _⟩
  | succ g =>
   have hi : i < s.size := by omega
   obtain ⟨x, hx⟩ : ∃ x : UInt8, s[i]'hi = x := ⟨_, rfl⟩
   have hxl : s.data.toList[i]? = some x := by rw [← hx]; exact Lib.data_getElem? s i hi
   have HX := Lib.hid hxl
   by_cases hx128 : x.toNat < 128
   ·have hnx := fun ty => run_next_ascii (P := Tryz.prog) w s i ty hi (by rw [hx]; exact hx128)
    rw [hx] at hnx
    clear hxl hx hl
    by_cases hc : 65 ≤ x.toNat ∧ x.toNat ≤ 90
    ·have q1 : ¬ (x.toNat : Int) < 65 := by omega
     have q2 : ¬ (90 : Int) < (x.toNat : Int) := by omega
     have HN : Hid ((s.data.toList.take (i + 1)).all (fun c => decide (65 ≤ c.toNat) && decide (c.toNat ≤ 90)) = true) := Lib.hid (by
      rw [List.take_add_one, HX.out, List.all_append, hA.out]
      show (true && ((decide (65 ≤ x.toNat) && decide (x.toNat ≤ 90)) && true)) = true
      rw [decide_eq_true hc.1, decide_eq_true hc.2]; rfl)
     clear hA hc
     go_wp2
     go_roundg g
     case measure => omega
     case rel => exact ⟨i + 1, by omega, rfl, HN⟩
    ·have HN := Lib.hid (cap_no HX.out hc)
     rcases (by omega : x.toNat < 65 ∨ (¬ x.toNat < 65 ∧ 90 < x.toNat)) with h1 | ⟨h1, h2⟩
     ·have q1 : (x.toNat : Int) < 65 := by omega
      clear hc hA
      go_wp2
      go_ret
      exact ⟨by rw [HN.out]; rfl, (Below.refl _ _).alloc (Nat.le_refl _) _⟩
     ·have q1 : ¬ (x.toNat : Int) < 65 := by omega
      have q2 : (90 : Int) < (x.toNat : Int) := by omega
      clear hc hA
      go_wp2
      go_ret
      exact ⟨by rw [HN.out]; rfl, (Below.refl _ _).alloc (Nat.le_refl _) _⟩
   ·have HN := Lib.hid (cap_no HX.out (fun h => by omega))
    have hnx := fun ty => run_next_any (P := Tryz.prog) w s i ty hi
    have hd : 128 ≤ (Utf8.decode s i).1 := by
     rw [Lib.decode_N s i]
     exact vdecN_high _ _ _ _ _ (by omega) (by rw [List.getD_eq_getElem?_getD, hxl]; show 128 ≤ x.toNat; omega)
    have HD := Lib.hid hd
    generalize (Utf8.decode s i).1 = rn at hnx HD
    have q1 : ¬ (rn : Int) < 65 := by have := HD.out; omega
    have q2 : (90 : Int) < (rn : Int) := by have := HD.out; omega
    clear hd hA hxl hx hl
    generalize (Utf8.decode s i).2 = sz at hnx
    go_wp2
    go_ret
    exact ⟨by rw [HN.out]; rfl, (Below.refl _ _).alloc (Nat.le_refl _) _⟩
theorem validV_fm (v : VD) : validV v = (capL v.p.data.toList && isFm v.f && inR v.a 15 && inR v.b 15 && inR v.z 16777215) := rfl
set_option maxHeartbeats 3200000 in
set_option maxRecDepth 100000 in
theorem vvalid_any (v : VD) (w : World) (hv : WideV v) : Calls Tryz.prog 21 #[.agg (vcs v)] w fun e w' => e = .returned (.bool (validV v)) ∧ Below w.heap.size w w' := by
 have FN := Lib.hid (fun wx : World => fnames_any wx)
 have VP := Lib.hid (fun wx : World => vprot_any v.p wx)
 have WA := Lib.hid (fun wx : World => vwithin_any v.a 15 wx)
 have WB := Lib.hid (fun wx : World => vwithin_any v.b 15 wx)
 have WZ := Lib.hid (fun wx : World => vwithin_any v.z 16777215 wx)
 have E := Lib.hid (validV_fm v)
 have HF := Lib.hid hv.f
 unfold vcs
 have b0 := (Below.refl w.heap.size w).alloc (o := .cells #[.string v.p, .int .i64 v.a, .int .i64 v.b, .int .i64 v.f, .int .i64 v.z] 39) (Nat.le_refl _)
 have k0 := heap_alloc_new w (.cells #[.string v.p, .int .i64 v.a, .int .i64 v.b, .int .i64 v.f, .int .i64 v.z] 39)
 clear hv
 go_enter Tryz.func21, Tryz.ntmps21
 go_upto_region 1 with fail
 generalize w.alloc _ = w1 at b0 k0 ⊢
 have HB1 := Lib.hid b0
 have K0 := Lib.hid k0
 refine wp_region_plan (fun w' => w'.cell? ⟨w.heap.size, 3, none⟩ = some (.int .i64 v.f)) [2] (.take 1 (.take 2 (.ask 0 true (.ask 3 false (.take 4 (.take 5 (.take 6 (.take 7 (.take 8 .stop))))) .stop) .stop))) (by kernel_rfl) (by kernel_rfl) (fun _ d _ _ _ h => by cases d <;> exact h) (five_of k0).2.2.2.1 ?_
 have hbd : Below w1.heap.size w1 w1.drew := (Below.refl _ _).drew
 have HBD := Lib.hid hbd
 clear b0 k0 hbd
 generalize w1.drew = wd at HBD ⊢
 refine take_any _ ?_ rfl rfl ?_ (fun K hK => ?_); rotate_left; (intro w0; go_simp; (try rfl)); (go_simp; refine hK _ ?_; clear hK K)
 refine take_held _ ?_ rfl rfl (by decide) ?_ (fun K hK => ?_); rotate_left; (intro w0 hw0; go_simp; (try rfl)); (go_simp; refine hK _ ?_; clear hK K)
 refine ask_step _ rfl trivial ?_; go_wp2_with (go_at_call 37; (with_reducible refine (FN.out _).mono ?_); rintro e w2 ⟨rfl, hl2, hb2⟩)
 refine Seg.mk ⟨(five_of (((HBD.out.trans (hb2.mono HBD.out.size)).block _ (lt_of_block K0.out)).trans K0.out)).2.2.2.1, ?_⟩
 have hlk := hl2.look2 HF.out.1 HF.out.2
 have hB2 : Below w.heap.size w w2 := HB1.out.trans ((HBD.out.trans (hb2.mono HBD.out.size)).mono HB1.out.size)
 have hc := five_of (((HBD.out.trans (hb2.mono HBD.out.size)).block _ (lt_of_block K0.out)).trans K0.out)
 have HB2 := Lib.hid hB2
 clear hB2 HBD hb2 hl2 FN HF HB1 K0
 generalize wd.heap.size = m at hlk ⊢
 obtain ⟨bF, hbF⟩ : ∃ b, b = isFm v.f := ⟨_, rfl⟩
 rw [← hbF] at hlk E
 clear hbF
 refine ask_late _ rfl trivial ?_; go_wp2_with fail; refine Seg.mk ?_
 clear hlk
 refine take_any _ ?_ rfl rfl ?_ (fun K hK => ?_); rotate_left; (intro w0; go_simp; (try rfl)); (go_simp; refine hK _ ?_; clear hK K)
 refine take_any _ ?_ rfl rfl ?_ (fun K hK => ?_); rotate_left; (intro w0; go_simp; (try rfl)); (go_simp; refine hK _ ?_; clear hK K)
 refine take_any _ ?_ rfl rfl ?_ (fun K hK => ?_); rotate_left; (intro w0; go_simp; (try rfl)); (go_simp; refine hK _ ?_; clear hK K)
 refine take_any _ ?_ rfl rfl ?_ (fun K hK => ?_); rotate_left; (intro w0; go_simp; (try rfl)); (go_simp; refine hK _ ?_; clear hK K)
 refine take_any _ ?_ rfl rfl ?_ (fun K hK => ?_); rotate_left; (intro w0; go_simp; (try rfl)); (go_simp; refine hK _ ?_; clear hK K)
 unfold wpPlan
 obtain ⟨bP, hbP⟩ : ∃ b, b = capL v.p.data.toList := ⟨_, rfl⟩
 obtain ⟨bA, hbA⟩ : ∃ b, b = inR v.a 15 := ⟨_, rfl⟩
 obtain ⟨bB, hbB⟩ : ∃ b, b = inR v.b 15 := ⟨_, rfl⟩
 obtain ⟨bZ, hbZ⟩ : ∃ b, b = inR v.z 16777215 := ⟨_, rfl⟩
 rw [← hbP] at VP E
 rw [← hbA] at WA E
 rw [← hbB] at WB E
 rw [← hbZ] at WZ E
 clear hbP hbA hbB hbZ
 have hE : ∀ b, (bP && bF && bA && bB && bZ) = b → validV v = b := fun b h => E.out.trans h
 have HE := Lib.hid hE
 clear hE E
 cases bF with
 | false =>
  have E2 : Hid (validV v = false) := Lib.hid (HE.out _ (by cases bP <;> rfl))
  clear HE
  go_wp2
  go_ret
  exact ⟨by rw [E2.out]; rfl, HB2.out⟩
 | true =>
 cases bP with
 | false =>
  have E2 : Hid (validV v = false) := Lib.hid (HE.out _ (by cases bA <;> cases bB <;> cases bZ <;> rfl))
  clear HE
  go_wp2_with (first
   | (go_at_call 38; (with_reducible refine (VP.out _).mono ?_); rintro e w3 ⟨rfl, hb3⟩; go_loud ((have hl3 : w.heap.size < w2.heap.size := cell_lt hc.1); (have hc3 := five_keep hb3 hl3 hc); (have HB3 := Lib.hid (HB2.out.trans (hb3.mono HB2.out.size))); clear hc hb3 hl3))
   | (go_at_call 39; (with_reducible refine (WA.out _).mono ?_); rintro e w4 ⟨rfl, rfl⟩)
   | (go_at_call 39; (with_reducible refine (WB.out _).mono ?_); rintro e w4 ⟨rfl, rfl⟩)
   | (go_at_call 39; (with_reducible refine (WZ.out _).mono ?_); rintro e w4 ⟨rfl, rfl⟩))
  go_ret
  exact ⟨by rw [E2.out]; rfl, HB3.out⟩
 | true =>
 cases bA with
 | false =>
  have E2 : Hid (validV v = false) := Lib.hid (HE.out _ (by cases bB <;> cases bZ <;> rfl))
  clear HE
  go_wp2_with (first
   | (go_at_call 38; (with_reducible refine (VP.out _).mono ?_); rintro e w3 ⟨rfl, hb3⟩; go_loud ((have hl3 : w.heap.size < w2.heap.size := cell_lt hc.1); (have hc3 := five_keep hb3 hl3 hc); (have HB3 := Lib.hid (HB2.out.trans (hb3.mono HB2.out.size))); clear hc hb3 hl3))
   | (go_at_call 39; (with_reducible refine (WA.out _).mono ?_); rintro e w4 ⟨rfl, rfl⟩)
   | (go_at_call 39; (with_reducible refine (WB.out _).mono ?_); rintro e w4 ⟨rfl, rfl⟩)
   | (go_at_call 39; (with_reducible refine (WZ.out _).mono ?_); rintro e w4 ⟨rfl, rfl⟩))
  go_ret
  exact ⟨by rw [E2.out]; rfl, HB3.out⟩
 | true =>
 cases bB with
 | false =>
  have E2 : Hid (validV v = false) := Lib.hid (HE.out _ (by cases bZ <;> rfl))
  clear HE
  go_wp2_with (first
   | (go_at_call 38; (with_reducible refine (VP.out _).mono ?_); rintro e w3 ⟨rfl, hb3⟩; go_loud ((have hl3 : w.heap.size < w2.heap.size := cell_lt hc.1); (have hc3 := five_keep hb3 hl3 hc); (have HB3 := Lib.hid (HB2.out.trans (hb3.mono HB2.out.size))); clear hc hb3 hl3))
   | (go_at_call 39; (with_reducible refine (WA.out _).mono ?_); rintro e w4 ⟨rfl, rfl⟩)
   | (go_at_call 39; (with_reducible refine (WB.out _).mono ?_); rintro e w4 ⟨rfl, rfl⟩)
   | (go_at_call 39; (with_reducible refine (WZ.out _).mono ?_); rintro e w4 ⟨rfl, rfl⟩))
  go_ret
  exact ⟨by rw [E2.out]; rfl, HB3.out⟩
 | true =>
 cases bZ with
 | false =>
  have E2 : Hid (validV v = false) := Lib.hid (HE.out _ (rfl))
  clear HE
  go_wp2_with (first
   | (go_at_call 38; (with_reducible refine (VP.out _).mono ?_); rintro e w3 ⟨rfl, hb3⟩; go_loud ((have hl3 : w.heap.size < w2.heap.size := cell_lt hc.1); (have hc3 := five_keep hb3 hl3 hc); (have HB3 := Lib.hid (HB2.out.trans (hb3.mono HB2.out.size))); clear hc hb3 hl3))
   | (go_at_call 39; (with_reducible refine (WA.out _).mono ?_); rintro e w4 ⟨rfl, rfl⟩)
   | (go_at_call 39; (with_reducible refine (WB.out _).mono ?_); rintro e w4 ⟨rfl, rfl⟩)
   | (go_at_call 39; (with_reducible refine (WZ.out _).mono ?_); rintro e w4 ⟨rfl, rfl⟩))
  go_ret
  exact ⟨by rw [E2.out]; rfl, HB3.out⟩
 | true =>
  have E2 : Hid (validV v = true) := Lib.hid (HE.out _ rfl)
  clear HE
  go_wp2_with (first
   | (go_at_call 38; (with_reducible refine (VP.out _).mono ?_); rintro e w3 ⟨rfl, hb3⟩; go_loud ((have hl3 : w.heap.size < w2.heap.size := cell_lt hc.1); (have hc3 := five_keep hb3 hl3 hc); (have HB3 := Lib.hid (HB2.out.trans (hb3.mono HB2.out.size))); clear hc hb3 hl3))
   | (go_at_call 39; (with_reducible refine (WA.out _).mono ?_); rintro e w4 ⟨rfl, rfl⟩)
   | (go_at_call 39; (with_reducible refine (WB.out _).mono ?_); rintro e w4 ⟨rfl, rfl⟩)
   | (go_at_call 39; (with_reducible refine (WZ.out _).mono ?_); rintro e w4 ⟨rfl, rfl⟩))
  go_ret
  exact ⟨by rw [E2.out]; rfl, HB3.out⟩
end Go.Proofs.YtmlmdidaldcoiaaGreatDoor
