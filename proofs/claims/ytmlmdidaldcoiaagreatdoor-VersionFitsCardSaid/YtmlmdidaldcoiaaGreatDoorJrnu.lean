/- The document's reader: numbers. -/
import Derived.Test.YtmlmdidaldcoiaaGreatDoorJrqu
import Derived.BigQuiet
import Derived.Deep.QuietTactic
namespace Go.Proofs.YtmlmdidaldcoiaaGreatDoor
open Go Go.ChangeShapes Go.WideShapes Go.ChangeAt Go.RowKit
set_option linter.unusedVariables false
set_option linter.unusedSimpArgs false

/-- A node has been read from p on, if V holds. -/
def RvPost (V : ND → List UInt8 → Prop) (d : Nat) (s : ByteArray) (p : Nat) (w : World) (e : Ending) (w' : World) : Prop := ∃ (cs : List Value) (x : ND) (q : Int), e = .returned (.tuple #[.agg cs.toArray, .int .i64 q]) ∧ NodeIn (d + 1) (fun b => w.heap.size ≤ b ∧ b < w'.heap.size) w' cs x ∧ Below w.heap.size w w' ∧ (q = -1 ∨ ((p : Int) ≤ q ∧ q ≤ (s.size : Int) ∧ (costN (d + 1) x : Int) ≤ 40 * (q - (p : Int)))) ∧ (lowV (d + 1) x ∧ numsB (d + 1) x = true) ∧ ∀ y t, V y t → x = y ∧ 0 ≤ q ∧ t = s.data.toList.drop q.toNat
/-- A leaf stands in the result's block. -/
theorem rleaf_res {V : ND → List UInt8 → Prop} {d p : Nat} {s : ByteArray} {w wx : World} (k : Int) (b : Bool) (z : Int) (t : ByteArray) (q : Int) (hb : Below w.heap.size w wx) (hq : q = -1 ∨ ((p : Int) ≤ q ∧ q ≤ (s.size : Int) ∧ 24 + 6 * (t.size : Int) ≤ 40 * (q - (p : Int)))) (ht : t.size ≤ maxLen - 2) (hz : wideI z = true)
  (hV : ∀ y t', V y t' → (.mk k b z t [] []) = y ∧ 0 ≤ q ∧ t' = s.data.toList.drop q.toNat) :
  RvPost V d s p w (.returned (.tuple #[.agg #[.int .i64 k, .bool b, .int .i64 z, .string t, .slice none 0 0, .slice none 0 0], .int .i64 q])) (set6 wx w.heap.size (.int .i64 k) (.bool b) (.int .i64 z) (.string t) (.slice none 0 0) (.slice none 0 0)) := by
 have hgs := grown_set6 wx w.heap.size (.int .i64 k) (.bool b) (.int .i64 z) (.string t) (.slice none 0 0) (.slice none 0 0)
 refine ⟨[.int .i64 k, .bool b, .int .i64 z, .string t, .slice none 0 0, .slice none 0 0], _, q, rfl, (node_leaf _ _ k b z t ht).deeper (by omega), hb.grown hgs hb.size (fun k hk => by cases hk; exact Nat.le_refl _), hq.imp_right (fun h => ⟨h.1, h.2.1, by rw [costN_succ]; show ((24 + 6 * t.size + 0 + 0 : Nat) : Int) ≤ _; have := h.2.2; omega⟩), ⟨⟨by simp [ND.items], fun y hy => by simp [ND.items] at hy⟩, ?_⟩, hV⟩
 rw [numsB_succ, Bool.and_eq_true]
 exact ⟨hz, rfl⟩
set_option maxRecDepth 100000 in
theorem rnumber_any (z : Int) (w : World) : Calls Tryz.prog 80 #[.int .i64 z] w fun e w' => e = .returned (.agg #[.int .i64 2, .bool false, .int .i64 z, .string ⟨#[]⟩, .slice none 0 0, .slice none 0 0]) ∧ Below w.heap.size w w' := by
 have b0 := (Below.refl w.heap.size w).alloc (o := .cells #[.int .i64 2, .bool false, .int .i64 z, .string ⟨#[]⟩, .slice none 0 0, .slice none 0 0] 30) (Nat.le_refl _)
 have k0 := heap_alloc_new w (.cells #[.int .i64 2, .bool false, .int .i64 z, .string ⟨#[]⟩, .slice none 0 0, .slice none 0 0] 30)
 obtain ⟨q0, q1, q2, q3, q4, q5⟩ := six_of k0
 go_enter Tryz.func80, Tryz.ntmps80
 go_wp2
 refine bodyPost_ret (v := .agg #[.int .i64 2, .bool false, .int .i64 z, .string ⟨#[]⟩, .slice none 0 0, .slice none 0 0]) ?_ ?_ ?_
 rotate_left
 ·rfl
 ·exact ⟨rfl, b0⟩
 ·simp [results, Tryz.results80, go_sem, q0, q1, q2, q3, q4, q5]
set_option maxRecDepth 100000 in
theorem rtext5_any (z : ByteArray) (w : World) : Calls Tryz.prog 28 #[.string z] w fun e w' => e = .returned (.agg #[.int .i64 3, .bool false, .int .i64 0, .string z, .slice none 0 0, .slice none 0 0]) ∧ Below w.heap.size w w' := by
 have b0 := (Below.refl w.heap.size w).alloc (o := .cells #[.int .i64 3, .bool false, .int .i64 0, .string z, .slice none 0 0, .slice none 0 0] 30) (Nat.le_refl _)
 have k0 := heap_alloc_new w (.cells #[.int .i64 3, .bool false, .int .i64 0, .string z, .slice none 0 0, .slice none 0 0] 30)
 obtain ⟨q0, q1, q2, q3, q4, q5⟩ := six_of k0
 go_enter Tryz.func28, Tryz.ntmps28
 go_wp2
 refine bodyPost_ret (v := .agg #[.int .i64 3, .bool false, .int .i64 0, .string z, .slice none 0 0, .slice none 0 0]) ?_ ?_ ?_
 rotate_left
 ·rfl
 ·exact ⟨rfl, b0⟩
 ·simp [results, Tryz.results28, go_sem, q0, q1, q2, q3, q4, q5]
theorem tw_lt {f : UInt8 → Bool} : ∀ {r : List UInt8} {k : Nat}, k < (r.takeWhile f).length → ∃ c, r[k]? = some c ∧ f c = true ∧ (r.takeWhile f)[k]? = some c
 | [], k, h => by simp at h
 | a :: t, k, h => by
  rw [List.takeWhile_cons] at h ⊢
  cases ha : f a with
  | false => rw [ha] at h; simp at h
  | true =>
   rw [ha] at h
   simp only [if_true] at h ⊢
   cases k with
   | zero => exact ⟨a, rfl, ha, rfl⟩
   | succ k =>
    obtain ⟨c, h1, h2, h3⟩ := tw_lt (f := f) (r := t) (k := k) (by simpa using h)
    exact ⟨c, by simpa using h1, h2, by simpa using h3⟩
theorem tw_end {f : UInt8 → Bool} : ∀ {r : List UInt8} {c : UInt8}, r[(r.takeWhile f).length]? = some c → f c = false
 | [], c, h => by simp at h
 | a :: t, c, h => by
  rw [List.takeWhile_cons] at h
  cases ha : f a with
  | false => rw [ha] at h; simp at h; rw [← h]; exact ha
  | true => rw [ha] at h; exact tw_end (f := f) (r := t) (by simpa using h)
theorem dw_drop {f : UInt8 → Bool} : ∀ (r : List UInt8), r.dropWhile f = r.drop (r.takeWhile f).length
 | [] => by simp
 | a :: t => by
  rw [List.takeWhile_cons, List.dropWhile_cons]
  cases ha : f a with
  | false => rfl
  | true => simpa using dw_drop (f := f) t
theorem decVal_bd0 : ∀ (l : List UInt8) (a : Nat), (∀ c, c ∈ l → isDig c = true) → l.foldl (fun a c => a * 10 + (c.toNat - 48)) a < (a + 1) * 10 ^ l.length
 | [], a, _ => by simp
 | c :: t, a, h => by
  have h1 := decVal_bd0 t (a * 10 + (c.toNat - 48)) fun d hd => h d (by simp [hd])
  have h2 := isDig_ne (h c (by simp))
  rw [List.foldl_cons, List.length_cons, Nat.pow_succ]
  refine Nat.lt_of_lt_of_le h1 ?_
  rw [Nat.mul_comm (10 ^ t.length) 10, ← Nat.mul_assoc]
  exact Nat.mul_le_mul_right _ (by omega)
theorem decVal_bd (l : List UInt8) (h : ∀ c, c ∈ l → isDig c = true) : decVal l < 10 ^ l.length := by
 have := decVal_bd0 l 0 h
 unfold decVal
 omega
end Go.Proofs.YtmlmdidaldcoiaaGreatDoor
