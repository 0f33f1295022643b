/- The document's reader of the second serialisation: values at every depth. -/
import Derived.Test.YtdppdonaojdceaaDoorCrv
import Derived.Test.YtdppdonaojdceaaDoorNkn
import Derived.Test.YtdppdonaojdceaaDoorNvw
import Derived.Deep.CutRange
namespace Go.Proofs.YtdppdonaojdceaaDoor
open Go Go.ChangeShapes Go.WideShapes Go.ChangeAt Go.RowKit
set_option linter.unusedVariables false
set_option linter.unusedSimpArgs false

/-- A node has been read from p on, if V holds. -/
def RcPost (V : ND → List UInt8 → Prop) (d : Nat) (s : ByteArray) (p : Nat) (w : World) (e : Ending) (w' : World) : Prop := ∃ (cs : List Value) (x : ND) (q : Int), e = .returned (.tuple #[.agg cs.toArray, .int .i64 q]) ∧ NodeIn (d + 1) (fun b => w.heap.size ≤ b ∧ b < w'.heap.size) w' cs x ∧ Below w.heap.size w w' ∧ (q = -1 ∨ ((p : Int) ≤ q ∧ q ≤ (s.size : Int) ∧ (costN (d + 1) x : Int) + 8 ≤ 40 * (q - (p : Int)))) ∧ (lowV (d + 1) x ∧ numsB (d + 1) x = true) ∧ ∀ y t, V y t → x = y ∧ 0 ≤ q ∧ t = s.data.toList.drop q.toNat
/-- A leaf stands in the result's block. -/
theorem cleaf_res {V : ND → List UInt8 → Prop} {d p : Nat} {s : ByteArray} {w wx : World} (k : Int) (b : Bool) (z : Int) (t : ByteArray) (q : Int) (hb : Below w.heap.size w wx) (hq : q = -1 ∨ ((p : Int) ≤ q ∧ q ≤ (s.size : Int) ∧ 32 + 6 * (t.size : Int) ≤ 40 * (q - (p : Int)))) (ht : t.size ≤ maxLen - 2) (hz : wideI z = true)
    (hV : ∀ y t', V y t' → (.mk k b z t [] []) = y ∧ 0 ≤ q ∧ t' = s.data.toList.drop q.toNat) :
    RcPost V d s p w (.returned (.tuple #[.agg #[.int .i64 k, .bool b, .int .i64 z, .string t, .slice none 0 0, .slice none 0 0], .int .i64 q])) (set6 wx w.heap.size (.int .i64 k) (.bool b) (.int .i64 z) (.string t) (.slice none 0 0) (.slice none 0 0)) := by
  have hgs := grown_set6 wx w.heap.size (.int .i64 k) (.bool b) (.int .i64 z) (.string t) (.slice none 0 0) (.slice none 0 0)
  refine ⟨[.int .i64 k, .bool b, .int .i64 z, .string t, .slice none 0 0, .slice none 0 0], _, q, rfl, (node_leaf _ _ k b z t ht).deeper (by omega), hb.grown hgs hb.size (fun k hk => by cases hk; exact Nat.le_refl _), hq.imp_right (fun h => ⟨h.1, h.2.1, by rw [costN_succ]; show ((24 + 6 * t.size + 0 + 0 : Nat) : Int) + 8 ≤ _; have := h.2.2; omega⟩), ⟨⟨by simp [ND.items], fun y hy => by simp [ND.items] at hy⟩, ?_⟩, hV⟩
  rw [numsB_succ, Bool.and_eq_true]
  exact ⟨hz, rfl⟩
set_option maxRecDepth 100000 in
theorem cnumber_any (z : Int) (w : World) : Calls Tryd.prog 41 #[.int .i64 z] w fun e w' => e = .returned (.agg #[.int .i64 2, .bool false, .int .i64 z, .string ⟨#[]⟩, .slice none 0 0, .slice none 0 0]) ∧ Below w.heap.size w w' := by
  have b0 := (Below.refl w.heap.size w).alloc (o := .cells #[.int .i64 2, .bool false, .int .i64 z, .string ⟨#[]⟩, .slice none 0 0, .slice none 0 0] 26) (Nat.le_refl _)
  have k0 := heap_alloc_new w (.cells #[.int .i64 2, .bool false, .int .i64 z, .string ⟨#[]⟩, .slice none 0 0, .slice none 0 0] 26)
  obtain ⟨q0, q1, q2, q3, q4, q5⟩ := six_of k0
  go_enter Tryd.func41, Tryd.ntmps41
  go_wp2
  refine bodyPost_ret (v := .agg #[.int .i64 2, .bool false, .int .i64 z, .string ⟨#[]⟩, .slice none 0 0, .slice none 0 0]) ?_ ?_ ?_
  rotate_left
  · rfl
  · exact ⟨rfl, b0⟩
  · simp [results, Tryd.results41, go_sem, q0, q1, q2, q3, q4, q5]
set_option maxRecDepth 100000 in
theorem ctext5_any (z : ByteArray) (w : World) : Calls Tryd.prog 44 #[.string z] w fun e w' => e = .returned (.agg #[.int .i64 3, .bool false, .int .i64 0, .string z, .slice none 0 0, .slice none 0 0]) ∧ Below w.heap.size w w' := by
  have b0 := (Below.refl w.heap.size w).alloc (o := .cells #[.int .i64 3, .bool false, .int .i64 0, .string z, .slice none 0 0, .slice none 0 0] 26) (Nat.le_refl _)
  have k0 := heap_alloc_new w (.cells #[.int .i64 3, .bool false, .int .i64 0, .string z, .slice none 0 0, .slice none 0 0] 26)
  obtain ⟨q0, q1, q2, q3, q4, q5⟩ := six_of k0
  go_enter Tryd.func44, Tryd.ntmps44
  go_wp2
  refine bodyPost_ret (v := .agg #[.int .i64 3, .bool false, .int .i64 0, .string z, .slice none 0 0, .slice none 0 0]) ?_ ?_ ?_
  rotate_left
  · rfl
  · exact ⟨rfl, b0⟩
  · simp [results, Tryd.results44, go_sem, q0, q1, q2, q3, q4, q5]
/-- What names cost. -/
def cnSum (ns : List ByteArray) : Nat := (ns.map fun s => 6 * s.size + 8).sum
theorem cnSum_push (ns : List ByteArray) (s : ByteArray) : cnSum (ns ++ [s]) = cnSum ns + (6 * s.size + 8) := by unfold cnSum; rw [List.map_append, List.sum_append]; rfl
theorem cnSum_len : ∀ ns : List ByteArray, 8 * ns.length ≤ cnSum ns
  | [] => Nat.zero_le _
  | s :: t => by
    have := cnSum_len t
    unfold cnSum at this ⊢
    rw [List.map_cons, List.sum_cons, List.length_cons]
    omega
/-- The items so far. -/
def CSt (d n : Nat) (k : Int) (s : ByteArray) (p0 nb C : Nat) (w wx : World) (vn vi : Value) (ns : List ByteArray) (A : List NC) (p : Nat) : Prop :=
  NSt 26 9 (d + 1) w wx 0 nb C k vn vi ns A ∧ Below w.heap.size w wx ∧ (∀ y, y ∈ A → lowV (d + 1) y.2 ∧ numsB (d + 1) y.2 = true) ∧ A.length ≤ n ∧ p0 < p ∧ p ≤ s.size ∧ cnSum ns + costs (d + 1) (nodesOf A) + 40 * (p0 + 1) ≤ 40 * p
/-- The list is returned. -/
theorem clist_done {V : ND → List UInt8 → Prop} {d : Nat} {k : Int} {s : ByteArray} {p0 nb C : Nat} {w wx : World} {vn vi : Value} {ns : List ByteArray} {A : List NC} {q : Int} (hst : NSt 26 9 (d + 1) w wx 0 nb C k vn vi ns A) (hb : Below w.heap.size w wx) (hq : q = -1 ∨ ((p0 : Int) ≤ q ∧ q ≤ (s.size : Int) ∧ ((32 + cnSum ns + costs (d + 1) (nodesOf A) : Nat) : Int) ≤ 40 * (q - (p0 : Int)))) (hf : ∀ y, y ∈ A → lowV (d + 1) y.2 ∧ numsB (d + 1) y.2 = true) (hm : (nodesOf A).length ≤ 1000000)
    (hV : ∀ y t, V y t → (.mk k false 0 ⟨#[]⟩ ns (nodesOf A)) = y ∧ 0 ≤ q ∧ t = s.data.toList.drop q.toNat) :
    RcPost V (d + 1) s p0 w (.returned (.tuple #[.agg #[.int .i64 k, .bool false, .int .i64 0, .string ⟨#[]⟩, vn, vi], .int .i64 q])) (set6 wx w.heap.size (.int .i64 k) (.bool false) (.int .i64 0) (.string ⟨#[]⟩) vn vi) := by
  have hgs := grown_set6 wx w.heap.size (.int .i64 k) (.bool false) (.int .i64 0) (.string ⟨#[]⟩) vn vi
  refine ⟨[.int .i64 k, .bool false, .int .i64 0, .string ⟨#[]⟩, vn, vi], .mk k false 0 ⟨#[]⟩ ns (nodesOf A), q, rfl, hst.done.1, hb.grown hgs hb.size (fun k hk => by cases hk; exact Nat.le_refl _), hq.imp_right (fun h => ⟨h.1, h.2.1, Int.le_trans (Int.le_of_eq (by rw [costN_succ]; show ((24 + 6 * 0 + cnSum ns + costs (d + 1) (nodesOf A) : Nat) : Int) + 8 = _; omega)) h.2.2⟩), ⟨⟨hm, ?_⟩, ?_⟩, hV⟩
  · intro y hy
    obtain ⟨z, hz, rfl⟩ := List.mem_map.1 (show y ∈ nodesOf A from hy)
    exact (hf z hz).1
  · rw [numsB_succ, Bool.and_eq_true, List.all_eq_true]
    refine ⟨show wideI 0 = true by decide, fun y hy => ?_⟩
    obtain ⟨z, hz, rfl⟩ := List.mem_map.1 (show y ∈ nodesOf A from hy)
    exact (hf z hz).2
end Go.Proofs.YtdppdonaojdceaaDoor
