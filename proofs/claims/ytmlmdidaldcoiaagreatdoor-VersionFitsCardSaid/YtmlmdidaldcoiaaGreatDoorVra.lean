/- The document's own functions on versions: which are valid, and their texts. -/
import Derived.Test.YtmlmdidaldcoiaaGreatDoorVtx
namespace Go.Proofs.YtmlmdidaldcoiaaGreatDoor
open Go Go.Maps Go.ChangeShapes Go.WideShapes Go.ChangeAt Go.RowKit
set_option linter.unusedVariables false
set_option linter.unusedSimpArgs false

theorem vhL_get : ∀ (D n k : Nat), k < D → (vhL D n)[k]? = some (vhC (n / 16 ^ (D - 1 - k) % 16))
 | 0, _, _, h => by omega
 | D + 1, n, 0, _ => by rw [vhL_cons]; rfl
 | D + 1, n, k + 1, h => by
  rw [vhL_cons, List.getElem?_cons_succ, vhL_get D n k (by omega)]
  rw [show D + 1 - 1 - (k + 1) = D - 1 - k by omega]
theorem rhexs_get (m : Nat) (h16 : m < 16) (h : m < ByteArray.size { data := #[48, 49, 50, 51, 52, 53, 54, 55, 56, 57, 97, 98, 99, 100, 101, 102] }) : ({ data := #[48, 49, 50, 51, 52, 53, 54, 55, 56, 57, 97, 98, 99, 100, 101, 102] } : ByteArray)[m]'h = vhC m := by
 have all : ∀ m : Fin 16, ∀ h, ({ data := #[48, 49, 50, 51, 52, 53, 54, 55, 56, 57, 97, 98, 99, 100, 101, 102] } : ByteArray)[m.val]'h = vhC m.val := by decide
 exact all ⟨m, h16⟩ h
theorem i64_and15 (n : Nat) : bits .and .i64 (n : Int) 15 = ((n % 16 : Nat) : Int) := by
 have h15 : (BitVec.ofInt 64 15).toNat = 2 ^ 4 - 1 := by decide
 have key : (BitVec.ofInt 64 (n : Int) &&& BitVec.ofInt 64 15).toNat = ((n : Int) % ((2 ^ 64 : Nat) : Int)).toNat % 2 ^ 4 := by
  rw [BitVec.toNat_and, BitVec.toNat_ofInt, h15, Nat.and_two_pow_sub_one_eq_mod]
 show IntKind.i64.wrap ((BitVec.ofInt 64 (n : Int) &&& BitVec.ofInt 64 15).toNat : Nat) = _
 rw [key, IntKind.wrap_i64]
 omega
set_option maxHeartbeats 3200000 in
set_option maxRecDepth 100000 in
theorem rvhex_any (n D : Nat) (y : Int) (hy : (D : Int) = y) (hn : n < 16777216) (hD : D ≤ 6) (w : World) : Calls Tryz.prog 46 #[.int .i64 (n : Int), .int .i64 y] w fun e w' => e = .returned (.string (bV (vhL D n))) ∧ Below w.heap.size w w' := by
 subst hy
 obtain ⟨i0, hi, hz0, hz1, hz2⟩ := info_parts Tryz.info5
 go_enter Tryz.func46, Tryz.ntmps46
 go_upto_region 3 with fail
 go_loopw [5, 6] (fun v vi wr => ∃ j q : Nat, q + j = D ∧ vi = .int .i64 ((q : Int) - 1) ∧ wr.ownsRow w.heap.size 5 1 v j (bytesV ((vhL D n).take j)) ∧ Below w.heap.size w wr) (fun _ vi _ => (intOf vi + 1).toNat)
 case atStart => exact ⟨0, D, rfl, rfl, World.ownsRow_nil _ _ _ _, Below.refl _ _⟩
 case round =>
  obtain ⟨j, q, hqj, rfl, hown, hb⟩ := hrel
  have HQ := Lib.hid hqj
  cases q with
  | zero =>
   have hj : j = D := by omega
   subst hj
   rw [List.take_of_length_le (by rw [vhL_length]; exact Nat.le_refl _)] at hown
   have hcv := conv_owns (P := Tryz.prog) wr 54 9 5 w.heap.size j _ (vhL j n) hown Tryz.underlying54 Tryz.underlying5 Tryz.underlying9
   clear hown hqj
   go_wp2
   go_ret
   exact ⟨rfl, hb⟩
  | succ q =>
   have hg := vhL_get D n j (by omega)
   rw [show D - 1 - j = q by omega] at hg
   have hnd : n / 16 ^ q < 16777216 := Nat.lt_of_le_of_lt (Nat.div_le_self _ _) hn
   have hd16 : n / 16 ^ q % 16 < 16 := Nat.mod_lt _ (by decide)
   have hand := i64_and15 (n / 16 ^ q)
   have ha := rhexs_get (n / 16 ^ q % 16) hd16
   have e0 : ((q + 1 : Nat) : Int) - 1 = (q : Int) := by omega
   rw [e0]
   have hq6 : q < 6 := by omega
   have ht : (vhL D n).take (j + 1) = (vhL D n).take j ++ [vhC (n / 16 ^ q % 16)] := by rw [List.take_add_one, hg]; rfl
   have HT := Lib.hid ht
   have hj6 : j ≤ 6 := by omega
   clear ht hg hqj e0
   have hsz := hb.size
   obtain ⟨d, hd⟩ : ∃ d, d = n / 16 ^ q % 16 := ⟨_, rfl⟩
   rw [← hd] at hd16 ha HT hand
   obtain ⟨zq, hzq⟩ : ∃ zq : Int, zq = ((n / 16 ^ q : Nat) : Int) := ⟨_, rfl⟩
   rw [← hzq] at hand
   have hz0' : 0 ≤ zq ∧ zq < 16777216 := by rw [hzq]; exact ⟨Int.natCast_nonneg _, by omega⟩
   have hsh : (n : Int) / (2 : Int) ^ (4 * q) = zq := by
    rw [hzq, show (16 : Nat) = 2 ^ 4 from rfl, ← Nat.pow_mul, Int.natCast_ediv]; norm_cast
   clear hzq hnd hd
   rcases (by omega : q = 0 ∨ q = 1 ∨ q = 2 ∨ q = 3 ∨ q = 4 ∨ q = 5) with rfl | rfl | rfl | rfl | rfl | rfl
   all_goals (try rw [show ((0 : Nat) : Int) = 0 from rfl])
   all_goals (try rw [show ((1 : Nat) : Int) = 1 from rfl])
   all_goals (try rw [show ((2 : Nat) : Int) = 2 from rfl])
   all_goals (try rw [show ((3 : Nat) : Int) = 3 from rfl])
   all_goals (try rw [show ((4 : Nat) : Int) = 4 from rfl])
   all_goals (try rw [show ((5 : Nat) : Int) = 5 from rfl])
   all_goals (simp only [Nat.mul_zero, Nat.mul_one, Nat.reduceMul, Int.reducePow, Int.ediv_one] at hsh)
   all_goals (subst hsh)
   all_goals (
    go_upto_region 4 with (at_builtin; refine wpList_append_own _ rfl (.tmp 13) (.tmp 21) 54 rfl w.heap.size 5 i0 (.int .u8 0) 1 1 Tryz.underlying54 hi hz0 hz1 hz2 rfl (by decide) _ j _ rfl (hown.alloc _) ⟨wr.heap.size, 0, none⟩ 1 1 [.int .u8 (vhC d).toNat] rfl rfl (cell_one_new _ _ _) (by intro u hu; simp at hu; subst hu; rfl) (by unfold maxLen; omega) (by omega) (by simp; omega) ?_; intro v' w2 hown2 hgrow _)
    have hgr2 : w.grownBy w2 none := grown_own (gtrans (grown_of_below hb (Nat.le_refl _) none) (galloc _ _ _)) (hown.alloc _) hgrow (Nat.le_refl _)
    have hb2 : Below w.heap.size w w2 := ⟨hgr2.os, hgr2.tape, hgr2.output, hgr2.size, fun i hi => hgr2.block i hi (by simp)⟩
    have hown3 : w2.ownsRow w.heap.size 5 1 v' (j + 1) (bytesV ((vhL D n).take (j + 1))) := by
     rw [HT.out, bytesV_append]
     exact hown2
    clear hown2 hgrow hown hb hgr2 hand ha hz0' hd16 HT
    go_wp2
    go_roundw)
   case rel => exact ⟨j + 1, 0, by have := HQ.out; omega, by go_num, hown3, hb2⟩
   case measure => simp [intOf]
   case rel => exact ⟨j + 1, 1, by have := HQ.out; omega, by go_num, hown3, hb2⟩
   case measure => simp [intOf]
   case rel => exact ⟨j + 1, 2, by have := HQ.out; omega, by go_num, hown3, hb2⟩
   case measure => simp [intOf]
   case rel => exact ⟨j + 1, 3, by have := HQ.out; omega, by go_num, hown3, hb2⟩
   case measure => simp [intOf]
   case rel => exact ⟨j + 1, 4, by have := HQ.out; omega, by go_num, hown3, hb2⟩
   case measure => simp [intOf]
   case rel => exact ⟨j + 1, 5, by have := HQ.out; omega, by go_num, hown3, hb2⟩
   case measure => simp [intOf]
theorem validV_iff (v : VD) : validV v = true ↔ capL v.p.data.toList = true ∧ (0 ≤ v.a ∧ v.a ≤ 15) ∧ (0 ≤ v.b ∧ v.b ≤ 15) ∧ (1 ≤ v.f ∧ v.f ≤ 3) ∧ (0 ≤ v.z ∧ v.z ≤ 16777215) := by
 unfold validV inR
 simp only [Bool.and_eq_true, decide_eq_true_eq, Bool.not_eq_true', decide_eq_false_iff_not]
 constructor
 ·rintro ⟨⟨⟨⟨h1, h2, h3⟩, h4⟩, h5⟩, h6⟩
  exact ⟨h1, h4, h5, by omega, h6⟩
 ·rintro ⟨h1, h4, h5, h2, h6⟩
  exact ⟨⟨⟨⟨h1, by omega, by omega⟩, h4⟩, h5⟩, h6⟩
set_option maxHeartbeats 6400000 in
set_option maxRecDepth 100000 in
theorem rvvalid_any (v : VD) (w : World) : Calls Tryz.prog 45 #[.agg (vcs v)] w fun e w' => e = .returned (.bool (validV v)) ∧ Below w.heap.size w w' := by
 have hl : v.p.data.toList.length = v.p.size := by rw [Array.length_toList]; rfl
 unfold vcs
 have b0 := (Below.refl w.heap.size w).alloc (o := .cells #[.string v.p, .int .i64 v.a, .int .i64 v.b, .int .i64 v.f, .int .i64 v.z] 39) (Nat.le_refl _)
 have k0 := heap_alloc_new w (.cells #[.string v.p, .int .i64 v.a, .int .i64 v.b, .int .i64 v.f, .int .i64 v.z] 39)
 go_enter Tryz.func45, Tryz.ntmps45
 go_upto_region 1 with fail
 generalize w.alloc _ = w1 at b0 k0 ⊢
 have c0 := five_of k0
 have HB := Lib.hid b0
 have HL := Lib.hid hl
 clear b0 k0 hl
 by_cases h4 : v.p.size = 4
 ·have q1 : ((v.p.size : Int) != 4) = false := by rw [h4]; rfl
  have q2 : ((v.p.size : Int) == 4) = true := by rw [h4]; rfl
  have H4 := Lib.hid h4
  have hs4 : (4 : Int) ≤ (v.p.size : Int) := by omega
  clear h4
  go_upto_region 4 with fail
  go_loopw [3, 8] (fun _ vc wr => ∃ j : Nat, vc = .int .i64 (j : Int) ∧ j ≤ 4 ∧ wr = w1 ∧ Hid ((v.p.data.toList.take j).all (fun c => decide (65 ≤ c.toNat) && decide (c.toNat ≤ 90)) = true)) (fun _ vc _ => 4 - (intOf vc).toNat)
  case atStart => exact ⟨0, rfl, by decide, rfl, Lib.hid rfl⟩
  case round =>
   obtain ⟨j, rfl, hj4, rfl, hA⟩ := hrel
   by_cases hj : j < 4
   ·have hjs : j < v.p.size := by have := H4.out; omega
    obtain ⟨x, hx⟩ : ∃ x : UInt8, v.p[j]'hjs = x := ⟨_, rfl⟩
    have hxl : v.p.data.toList[j]? = some x := by rw [← hx]; exact Lib.data_getElem? v.p j hjs
    have HX := Lib.hid hxl
    have hj0 : (0 : Int) ≤ (j : Int) := by omega
    have hjsI : (j : Int) < (v.p.size : Int) := by omega
    clear hxl
    by_cases hc : 65 ≤ x.toNat ∧ x.toNat ≤ 90
    ·have q3 : ¬ (x.toNat : Int) < 65 := by omega
     have q4 : ¬ (90 : Int) < (x.toNat : Int) := by omega
     have HN : Hid ((v.p.data.toList.take (j + 1)).all (fun c => decide (65 ≤ c.toNat) && decide (c.toNat ≤ 90)) = true) := Lib.hid (by
      rw [List.take_add_one, HX.out, List.all_append, hA.out]
      show (true && ((decide (65 ≤ x.toNat) && decide (x.toNat ≤ 90)) && true)) = true
      rw [decide_eq_true hc.1, decide_eq_true hc.2]; rfl)
     clear hA hc
     go_wp2
     go_roundw
     case rel => exact ⟨j + 1, by go_num, by omega, by first | exact rfl | trivial, HN⟩
     case measure => simp [intOf]; omega
    ·have E : Hid (validV v = false) := Lib.hid (Bool.eq_false_iff.2 fun h => by
      have h1 := ((validV_iff v).1 h).1
      rw [cap_no HX.out hc] at h1
      cases h1)
     rcases (by omega : x.toNat < 65 ∨ (¬ x.toNat < 65 ∧ 90 < x.toNat)) with g1 | ⟨g1, g2⟩
     ·have q3 : (x.toNat : Int) < 65 := by omega
      clear hc hA
      go_wp2
      go_ret
      exact ⟨by rw [E.out]; rfl, HB.out⟩
     ·have q3 : ¬ (x.toNat : Int) < 65 := by omega
      have q4 : (90 : Int) < (x.toNat : Int) := by omega
      clear hc hA
      go_wp2
      go_ret
      exact ⟨by rw [E.out]; rfl, HB.out⟩
   obtain rfl : j = 4 := by omega
   have hA2 := hA.out
   rw [List.take_of_length_le (by rw [HL.out, H4.out]; exact Nat.le_refl _)] at hA2
   have HC : Hid (capL v.p.data.toList = true) := Lib.hid (by rw [capL_snoc, hA2, HL.out, H4.out]; rfl)
   clear hA hA2 hj
   by_cases h0 : 0 ≤ v.a
   rotate_left
   ·have E : Hid (validV v = false) := Lib.hid (Bool.eq_false_iff.2 fun h => by have := (validV_iff v).1 h; omega)
    clear HC
    go_wp2
    go_ret
    exact ⟨by rw [E.out]; rfl, HB.out⟩
   by_cases h1 : v.a ≤ 15
   rotate_left
   ·have E : Hid (validV v = false) := Lib.hid (Bool.eq_false_iff.2 fun h => by have := (validV_iff v).1 h; omega)
    clear HC
    go_wp2
    go_ret
    exact ⟨by rw [E.out]; rfl, HB.out⟩
   by_cases h2 : 0 ≤ v.b
   rotate_left
   ·have E : Hid (validV v = false) := Lib.hid (Bool.eq_false_iff.2 fun h => by have := (validV_iff v).1 h; omega)
    clear HC
    go_wp2
    go_ret
    exact ⟨by rw [E.out]; rfl, HB.out⟩
   by_cases h3 : v.b ≤ 15
   rotate_left
   ·have E : Hid (validV v = false) := Lib.hid (Bool.eq_false_iff.2 fun h => by have := (validV_iff v).1 h; omega)
    clear HC
    go_wp2
    go_ret
    exact ⟨by rw [E.out]; rfl, HB.out⟩
   by_cases h4 : 1 ≤ v.f
   rotate_left
   ·have E : Hid (validV v = false) := Lib.hid (Bool.eq_false_iff.2 fun h => by have := (validV_iff v).1 h; omega)
    clear HC
    go_wp2
    go_ret
    exact ⟨by rw [E.out]; rfl, HB.out⟩
   by_cases h5 : v.f ≤ 3
   rotate_left
   ·have E : Hid (validV v = false) := Lib.hid (Bool.eq_false_iff.2 fun h => by have := (validV_iff v).1 h; omega)
    clear HC
    go_wp2
    go_ret
    exact ⟨by rw [E.out]; rfl, HB.out⟩
   by_cases h6 : 0 ≤ v.z
   rotate_left
   ·have E : Hid (validV v = false) := Lib.hid (Bool.eq_false_iff.2 fun h => by have := (validV_iff v).1 h; omega)
    clear HC
    go_wp2
    go_ret
    exact ⟨by rw [E.out]; rfl, HB.out⟩
   by_cases h7 : v.z < 16777216
   rotate_left
   ·have E : Hid (validV v = false) := Lib.hid (Bool.eq_false_iff.2 fun h => by have := (validV_iff v).1 h; omega)
    clear HC
    go_wp2
    go_ret
    exact ⟨by rw [E.out]; rfl, HB.out⟩
   have E : Hid (validV v = true) := Lib.hid ((validV_iff v).2 ⟨HC.out, ⟨h0, h1⟩, ⟨h2, h3⟩, ⟨h4, h5⟩, h6, by omega⟩)
   clear HC
   go_wp2
   go_ret
   exact ⟨by rw [E.out]; rfl, HB.out⟩
 ·have q1 : ((v.p.size : Int) != 4) = true := by simp; omega
  have q2 : ((v.p.size : Int) == 4) = false := by simp; omega
  have E : Hid (validV v = false) := Lib.hid (Bool.eq_false_iff.2 fun h => by
   have h1 := (validV_parts h).1
   rw [HL.out] at h1
   exact h4 h1)
  clear h4
  go_wp2
  go_ret
  exact ⟨by rw [E.out]; rfl, HB.out⟩
end Go.Proofs.YtmlmdidaldcoiaaGreatDoor
