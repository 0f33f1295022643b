/- The program's table of scales in memory; the small functions of the third serialisation's writer: isNegative, fits, bigEndian, numberOf. -/
import Derived.Test.YtmlmdidaldcoiaaGreatDoorCw
import Derived.Test.YtmlmdidaldcoiaaGreatDoorMsd
import Derived.Test.YtmlmdidaldcoiaaGreatDoorWsc
namespace Go.Proofs.YtmlmdidaldcoiaaGreatDoor
open Go Go.ChangeShapes Go.WideShapes Go.ChangeAt Go.RowKit
set_option linter.unusedVariables false
set_option linter.unusedSimpArgs false

/-- A row of the table as cells. -/
def scC (i : Nat) (v : Value) : List Value := [.int .i64 (scR i).kind, .int .i64 (scR i).least, .int .i64 (scR i).count, .int .u8 (scR i).first, .int .u8 (scR i).wide, v]
def scAll (v : Nat → Value) : List Value := (List.range 7).flatMap fun i => scC i (v i)
theorem scAll_part (v : Nat → Value) (j : Nat) (h : j < 7) : (scAll v).toArray.extract (j * 6) (j * 6 + 6) = (scC j (v j)).toArray := by
 obtain rfl | rfl | rfl | rfl | rfl | rfl | rfl : j = 0 ∨ j = 1 ∨ j = 2 ∨ j = 3 ∨ j = 4 ∨ j = 5 ∨ j = 6 := by omega
 all_goals rfl
/-- The table reads as the program lays it, in blocks below B; v are the rows' widths. -/
def SclV (B : Nat) (w : World) (v : Nat → Value) : Prop := 6 < B ∧ B ≤ w.heap.size ∧ (∀ j u, (scAll v)[j]? = some u → w.cell? ⟨6, j, none⟩ = some u) ∧ ∀ i, i < 7 → IntsAt B w (v i) (scR i).widths
def SclB (B : Nat) (w : World) : Prop := ∃ v, SclV B w v
abbrev Scl (w : World) : Prop := SclB w.heap.size w
theorem SclV.below {B : Nat} {w w' : World} {v : Nat → Value} (h : SclV B w v) (hb : Below B w w') : SclV B w' v := by
 obtain ⟨h1, h2, h3, h4⟩ := h
 exact ⟨h1, Nat.le_trans h2 hb.size, fun j u hu => (hb.cell (p := ⟨6, j, none⟩) h1).trans (h3 j u hu), fun i hi => (h4 i hi).below hb⟩
theorem SclB.below {B : Nat} {w w' : World} (h : SclB B w) (hb : Below B w w') : SclB B w' := by
 obtain ⟨v, h⟩ := h
 exact ⟨v, h.below hb⟩
theorem SclB.to {B : Nat} {w w' : World} (h : SclB B w) (hb : Below B w w') : Scl w' := by
 obtain ⟨v, h⟩ := h
 obtain ⟨h1, h2, h3, h4⟩ := h.below hb
 exact ⟨v, Nat.lt_of_lt_of_le h1 h2, Nat.le_refl _, h3, fun i hi => (h4 i hi).same (fun _ _ => rfl) h2⟩
section
variable {P : Program}
theorem mload_cells (w : World) (g : Nat) (ty : TypeId) (cs : List Value) (d : TypeDesc) (hc : ∀ j v, cs[j]? = some v → w.cell? ⟨g, j, none⟩ = some v)
  (hu : P.underlying ty = some d) (hd : (match d with | .struct _ | .array _ _ => true | _ => false) = true) (hi : (P.info? ty).map (·.size) = some cs.length) :
  (loadVar ty ⟨g, 0, none⟩).run P w = .ok (.agg cs.toArray) w := by
 have hl : (loadCells ⟨g, 0, none⟩ cs.length).run P w = .ok cs.toArray w :=
  run_loadCells_list (P := P) w ⟨g, 0, none⟩ cs (fun j v hv => by
   rw [Addr.add_lit, Nat.zero_add]
   exact hc j v hv)
 cases hq : P.info? ty with
 | none => simp [hq] at hi
 | some i =>
  have hs : i.size = cs.length := by simpa [hq] using hi
  have hagg : (isAgg ty).run P w = .ok true w := by
   unfold isAgg
   rw [Sem.run_bind, run_underlying hu w]
   cases d <;> simp_all
  simp [loadVar, Sem.run_bind, hagg, sizeOf, typeInfo, hq, hs, hl]
/-- A variable of many cells is loaded whole. -/
theorem mp_ldc {ops : Array Oper} {rest : List Oper} {o : Oper} {a : Act} {w : World} {Q : Exit → Act → World → Prop} (hgd : o.guard = none) (ty : TypeId) (x : Operand) (ho : o.op = .load ty x)
  (g : Nat) (hx : a.eval x = .pointer (some ⟨g, 0, none⟩)) (cs : List Value) (hc : ∀ j v, cs[j]? = some v → w.cell? ⟨g, j, none⟩ = some v) (d : TypeDesc) (hu : P.underlying ty = some d)
  (hd : (match d with | .struct _ | .array _ _ => true | _ => false) = true) (hi : (P.info? ty).map (·.size) = some cs.length)
  (K : wpList P ops Q rest (a.put o.dst (.agg cs.toArray)) w) : wpList P ops Q (o :: rest) a w := by
 refine wpList_plain hgd fun _ hK => ?_
 unfold Oper.wp execOp
 simp only [ho, hx, Instr.loadAt, Instr.sureAddr, Sem.run_bind, Sem.run_pure, Result.andThen_ok, mload_cells w g ty cs d hc hu hd hi]
 exact hK _ _ K
/-- An element, itself of several cells, of an array that is held as a value. -/
theorem mindex_part (t e : TypeId) (n s : Nat) (cs : Array Value) (j : Nat) (h : P.underlying t = some (.array n e)) (hj : j < n) (hag : ∀ w, (isAgg e).run P w = .ok true w) (hsz : ∀ w, (sizeOf e).run P w = .ok s w) (w : World) :
  (Instr.index t (.agg cs) (.int .i64 (j : Int))).run P w = .ok (.agg (cs.extract (j * s) (j * s + s))) w := by
 have h0 : (0 ≤ (j : Int) ∧ (j : Int) < (n : Int)) := ⟨by omega, by omega⟩
 have hp : ∀ k, (part e cs k).run P w = .ok (.agg (cs.extract k (k + s))) w := by
  intro k
  simp only [part, Sem.run_bind, hsz, hag, Result.andThen_ok]
  simp [Sem.run_bind, hsz]
 simp [Instr.index, asIntOf, run_underlying h, h0, hsz, hp, Result.andThen]
 omega
end
theorem fitZ_8 (z : Int) : fitZ z 8 = true := rfl
theorem sneg_any (k l c f wd : Int) (ao : Option Addr) (len cap : Nat) (w : World) : Calls Tryz.prog 185 #[.agg #[.int .i64 k, .int .i64 l, .int .i64 c, .int .u8 f, .int .u8 wd, .slice ao len cap]] w fun e w' => e = .returned (.bool (decide (l < 0))) ∧ Below w.heap.size w w' := by
 have b1 := (Below.refl w.heap.size w).alloc (o := .cells #[.int .i64 k, .int .i64 l, .int .i64 c, .int .u8 f, .int .u8 wd, .slice ao len cap] 229) (Nat.le_refl _)
 have k1 := heap_alloc_new w (.cells #[.int .i64 k, .int .i64 l, .int .i64 c, .int .u8 f, .int .u8 wd, .slice ao len cap] 229)
 go_enter Tryz.func185, Tryz.ntmps185
 go_upto_region 1 with fail
 generalize w.alloc (.cells #[.int .i64 k, .int .i64 l, .int .i64 c, .int .u8 f, .int .u8 wd, .slice ao len cap] 229) = w1 at b1 k1 ⊢
 have c1 := six_of k1
 go_wp2
 go_ret
 exact ⟨rfl, b1⟩
set_option maxRecDepth 100000 in
theorem sfits_any (z k : Int) (w : World) (hk : k = 1 ∨ k = 2 ∨ k = 4 ∨ k = 8) (h1 : -9223372036854775808 ≤ z) (h2 : z ≤ 9223372036854775807) : Calls Tryz.prog 197 #[.int .i64 z, .int .i64 k] w fun e w' => e = .returned (.bool (fitZ z k)) ∧ w = w' := by
 by_cases hz : z < 0
 ·rcases hk with rfl | rfl | rfl | rfl
  ·have hq : (z / 128 == -1) = fitZ z 1 := by unfold fitZ; rw [Bool.eq_iff_iff]; simp; omega
   go_enter Tryz.func197, Tryz.ntmps197
   go_wp2
   go_ret
   exact ⟨rfl, rfl⟩
  ·have hq : (z / 32768 == -1) = fitZ z 2 := by unfold fitZ; rw [Bool.eq_iff_iff]; simp; omega
   go_enter Tryz.func197, Tryz.ntmps197
   go_wp2
   go_ret
   exact ⟨rfl, rfl⟩
  ·have hq : (z / 2147483648 == -1) = fitZ z 4 := by unfold fitZ; rw [Bool.eq_iff_iff]; simp; omega
   go_enter Tryz.func197, Tryz.ntmps197
   go_wp2
   go_ret
   exact ⟨rfl, rfl⟩
  ·have hq : (z / 9223372036854775808 == -1) = true := by simp; omega
   rw [fitZ_8]
   go_enter Tryz.func197, Tryz.ntmps197
   go_wp2
   go_ret
   exact ⟨rfl, rfl⟩
 ·rcases hk with rfl | rfl | rfl | rfl
  ·have hq : (z / 256 == 0) = fitZ z 1 := by unfold fitZ; rw [Bool.eq_iff_iff]; simp; omega
   go_enter Tryz.func197, Tryz.ntmps197
   go_wp2
   go_ret
   exact ⟨rfl, rfl⟩
  ·have hq : (z / 65536 == 0) = fitZ z 2 := by unfold fitZ; rw [Bool.eq_iff_iff]; simp; omega
   go_enter Tryz.func197, Tryz.ntmps197
   go_wp2
   go_ret
   exact ⟨rfl, rfl⟩
  ·have hq : (z / 4294967296 == 0) = fitZ z 4 := by unfold fitZ; rw [Bool.eq_iff_iff]; simp; omega
   go_enter Tryz.func197, Tryz.ntmps197
   go_wp2
   go_ret
   exact ⟨rfl, rfl⟩
  ·have hq : (z / 18446744073709551616 == 0) = true := by simp; omega
   rw [fitZ_8]
   go_enter Tryz.func197, Tryz.ntmps197
   go_wp2
   go_ret
   exact ⟨rfl, rfl⟩
theorem zbyte (z : Int) (i : Nat) (h : i ≤ 7) : z / 2 ^ (8 * i) % 256 = ((UInt8.ofNat (u64N z / 256 ^ i)).toNat : Int) := by
 rw [UInt8.toNat_ofNat']
 unfold u64N
 obtain rfl | rfl | rfl | rfl | rfl | rfl | rfl | rfl : i = 0 ∨ i = 1 ∨ i = 2 ∨ i = 3 ∨ i = 4 ∨ i = 5 ∨ i = 6 ∨ i = 7 := by omega
 all_goals (simp only [Nat.reduceMul, Nat.reducePow, Int.reducePow]; omega)
/-- A cell of an own row is written. -/
theorem owns_set {w : World} {B n cap g j : Nat} {T : TypeId} {xs : List Value} (h : w.ownsRow B T 1 (.slice (some ⟨g, 0, none⟩) n cap) n xs) (hj : j < n) (u : Value) : (w.setCell ⟨g, j, none⟩ u).ownsRow B T 1 (.slice (some ⟨g, 0, none⟩) n cap) n (xs.set j u) ∧ w.cell? ⟨g, j, none⟩ = xs[j]? ∧ w.frozen? ⟨g, j, none⟩ = false ∧ B ≤ g := by
 obtain ⟨hl, h⟩ := h
 rcases h with ⟨h, -⟩ | ⟨g', cap', cur, hv, hb, hg, hnc, hcm, hcs, hcu⟩
 ·cases h
 ·cases hv
  rw [Nat.mul_one] at hcu hcs hl
  refine ⟨⟨by rw [List.length_set, Nat.mul_one]; exact hl, .inr ⟨g, cap, cur.setIfInBounds j u, rfl, hb, heap_set hg u, hnc, hcm, by rw [Array.size_setIfInBounds, Nat.mul_one]; exact hcs, ?_⟩⟩, ?_, free_blk hg, hb⟩
  ·rw [Array.toList_setIfInBounds, Nat.mul_one, List.take_set, hcu]
  ·rw [← hcu, List.getElem?_take, if_pos hj, Array.getElem?_toList]
   simp [World.cell?, hg]
theorem big_set (N k j : Nat) (hj : j < k) : (List.replicate (k - j) (Value.int .u8 0) ++ bytesV (bigL N j)).set (k - 1 - j) (.int .u8 ((UInt8.ofNat (N / 256 ^ j)).toNat : Int)) = List.replicate (k - (j + 1)) (Value.int .u8 0) ++ bytesV (bigL N (j + 1)) := by
 obtain ⟨m, rfl⟩ : ∃ m, k = j + 1 + m := ⟨k - (j + 1), by omega⟩
 rw [show j + 1 + m - j = m + 1 by omega, show j + 1 + m - 1 - j = m by omega, show j + 1 + m - (j + 1) = m by omega, List.replicate_succ', List.append_assoc, List.set_append_right _ _ (by simp)]
 simp [bytesV, bigL]
set_option maxHeartbeats 1600000 in
set_option maxRecDepth 100000 in
theorem mpbig_any (z : Int) (k : Nat) (w : World) (hk : k ≤ 8) : Calls Tryz.prog 198 #[.int .i64 z, .int .i64 (k : Int)] w fun e w' => e = .returned (.string (bC (bigL (u64N z) k))) ∧ Below w.heap.size w w' := by
 obtain ⟨i0, hi, hz0, hz1, hz2⟩ := info_parts Tryz.info5
 have hub := Tryz.underlying54
 have hu8 := Tryz.underlying5
 have hust := Tryz.underlying9
 have hk8 : (k : Int) ≤ 8 := by omega
 have hk0 : (0 : Int) ≤ (k : Int) := by omega
 have ZB := Lib.hid (zbyte z)
 go_enter Tryz.func198, Tryz.ntmps198
 go_upto_region 3 with (at_make; refine wpList_make_full _ rfl _ _ 54 rfl _ 5 i0 (.int .u8 0) 1 Tryz.underlying54 hi hz0 hz1 .i64 .i64 _ _ k rfl rfl rfl rfl (by rw [hz2]; omega) (by unfold maxLen; omega) (Nat.le_refl _) ?_; intro w1 hown hgrow)
 rw [show (Value.int .u8 0).cells = #[.int .u8 0] from rfl, toList_madeCells_one, Nat.mul_one] at hown
 have b1 := (Below.refl w.heap.size w).grown hgrow (Nat.le_refl _) (fun _ e => by cases e)
 have hrow : w1.ownsRow w.heap.size 5 1 (.slice (some ⟨w.heap.size, 0, none⟩) k k) k (List.replicate k (Value.int .u8 0)) := hown
 have hgn : w.heap.size ≤ w.heap.size := Nat.le_refl _
 obtain ⟨g, hg⟩ : ∃ g, g = w.heap.size := ⟨_, rfl⟩
 rw [← hg] at hrow ⊢
 have HG := Lib.hid hg
 have HB1 := Lib.hid b1
 have HR1 := Lib.hid hrow
 clear hown hgrow hrow b1 hg hgn
 go_loopw [10] (fun i wr => ∃ (j : Nat), i = .int .i64 (j : Int) ∧ j ≤ k ∧ wr.ownsRow g 5 1 (.slice (some ⟨g, 0, none⟩) k k) k (List.replicate (k - j) (Value.int .u8 0) ++ bytesV (bigL (u64N z) j)) ∧ Below w.heap.size w wr) (fun i _ => k - (intOf i).toNat)
 case atStart => exact ⟨0, by simp, Nat.zero_le _, by simpa [bigL, bytesV] using HR1.out, HB1.out⟩
 case round =>
  obtain ⟨j, rfl, hj, hown, hB⟩ := hrel
  have HROW := Lib.hid (And.intro hown hB)
  by_cases hlt : j < k
  ·have hlt' : (j : Int) < (k : Int) := by omega
   obtain ⟨m, hm⟩ : ∃ m : Nat, (m : Int) = (k : Int) - 1 - (j : Int) := ⟨k - 1 - j, by omega⟩
   have hk1 : IntKind.i64.wrap ((k : Int) - 1) = (k : Int) - 1 := IntWalk.i64_in _ (by omega)
   have hk2 : IntKind.i64.wrap ((k : Int) - 1 - (j : Int)) = (m : Int) := by rw [hm]; exact IntWalk.i64_in _ (by omega)
   have hk3 : (k : Int) - 1 - (j : Int) = (m : Int) := hm.symm
   have hmk : (m : Int) < (k : Int) := by omega
   have hm0 : (0 : Int) ≤ (m : Int) := by omega
   have hj7 : (j : Int) ≤ 7 := by omega
   have hj0 : (0 : Int) ≤ (j : Int) := by omega
   obtain ⟨c, hcc⟩ : ∃ c, c = UInt8.ofNat (u64N z / 256 ^ j) := ⟨_, rfl⟩
   have hc : z / 2 ^ (8 * j) % 256 = (c.toNat : Int) := by rw [hcc]; exact ZB.out j (by omega)
   obtain ⟨o1, o2, o3, -⟩ := owns_set hown (j := m) (by omega) (.int .u8 (c.toNat : Int))
   have hmm : m = k - 1 - j := by omega
   have ho2 : wr.cell? ⟨g, m, none⟩ = some (.int .u8 0) := by
    rw [o2, List.getElem?_append_left (by simp; omega), List.getElem?_replicate, if_pos (by omega)]
   have e1 : (List.replicate (k - j) (Value.int .u8 0) ++ bytesV (bigL (u64N z) j)).set m (.int .u8 (c.toNat : Int)) = List.replicate (k - (j + 1)) (Value.int .u8 0) ++ bytesV (bigL (u64N z) (j + 1)) := by
    rw [hmm, hcc]; exact big_set _ _ _ hlt
   rw [e1] at o1
   have hb9 := hB.setCell (p := ⟨g, m, none⟩) (by rw [HG.out]; exact Nat.le_refl _) (.int .u8 (c.toNat : Int))
   have F := Lib.hid (And.intro o1 hb9)
   clear hm hcc o2 e1 hown hB o1 hb9 hmm
   go_wp2
   go_roundw
   case rel => exact ⟨j + 1, by go_num, by omega, F.out.1, F.out.2⟩
   case measure => simp [intOf] <;> omega
  ·have hj2 : j = k := by omega
   have hge : ¬ (j : Int) < (k : Int) := by omega
   subst hj2
   rw [Nat.sub_self, List.replicate_zero, List.nil_append] at hown
   have hcv := conv_owns (P := Tryz.prog) wr 54 9 5 g j _ (bigL (u64N z) j) hown hub hu8 hust
   clear hown
   go_wp2
   go_ret
   exact ⟨rfl, hB⟩
end Go.Proofs.YtmlmdidaldcoiaaGreatDoor
