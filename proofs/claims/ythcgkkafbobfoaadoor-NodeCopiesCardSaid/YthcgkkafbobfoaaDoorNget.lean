/- Get, on a map with as many names as items. -/
import Derived.Test.YthcgkkafbobfoaaDoorNsl
namespace Go.Proofs.YthcgkkafbobfoaaDoor
open Go Go.ChangeShapes Go.WideShapes Go.ChangeAt Go.RowKit
set_option linter.unusedVariables false
set_option linter.unusedSimpArgs false

/-- What Get hands out: a node in new blocks, or the zero node. -/
def GetNew (d : Nat) (w : World) (o : Option ND) (e : Ending) (w' : World) : Prop := ∃ cs : List Value, e = .returned (.tuple #[.agg cs.toArray, .bool o.isSome]) ∧ NodeIn (d + 1) (Fr w.heap.size w') w' cs (o.getD nd0) ∧ Below w.heap.size w w'
set_option maxHeartbeats 1600000 in
set_option maxRecDepth 100000 in
theorem nget_any {d : Nat} {S : Nat → Prop} (cs : List Value) (x : ND) (s : ByteArray) (w : World) (h : NodeIn (d + 1) S w cs x) (hS : ∀ b, S b → b < w.heap.size) (hk : x.kind = 5) (hlen : x.names.length = x.items.length) (hlow : lowN (d + 1) x) :
    Calls Tryd.prog 16 #[.agg cs.toArray, .string s] w (GetNew d w (getN x s)) := by
  obtain ⟨a1, l1, c1, a2, l2, c2, rfl⟩ := h.slices
  have hg : getN x s = (x.names.findIdx? (fun t => decide (t = s))).bind fun i => x.items[i]? := by unfold getN; rw [if_pos hk]
  rw [hk] at h ⊢
  obtain ⟨w1, hw1⟩ : ∃ W, W = (w.alloc (.cells #[.int .i64 5, .bool x.bool, .int .i64 x.num, .string x.text, .slice a1 l1 c1, .slice a2 l2 c2] 26)).alloc (.cells #[.int .i64 0, .bool false, .int .i64 0, .string ⟨#[]⟩, .slice none 0 0, .slice none 0 0] 26) := ⟨_, rfl⟩
  have z1 : (w.alloc (.cells #[.int .i64 5, .bool x.bool, .int .i64 x.num, .string x.text, .slice a1 l1 c1, .slice a2 l2 c2] 26)).heap.size = w.heap.size + 1 := by simp
  have b1 : Below w.heap.size w w1 := by rw [hw1]; exact ((Below.refl _ _).alloc (Nat.le_refl _) _).alloc (by simp) _
  have k0 : w1.heap[w.heap.size]? = some (.cells #[.int .i64 5, .bool x.bool, .int .i64 x.num, .string x.text, .slice a1 l1 c1, .slice a2 l2 c2] 26 (0, 0)) := by rw [hw1]; exact (Below.heap_alloc _ _ _ (by omega)).trans (heap_alloc_new _ _)
  have k1 : w1.heap[w.heap.size + 1]? = some (.cells #[.int .i64 0, .bool false, .int .i64 0, .string ⟨#[]⟩, .slice none 0 0, .slice none 0 0] 26 (0, 0)) := by
    have := heap_alloc_new (w.alloc (.cells #[.int .i64 5, .bool x.bool, .int .i64 x.num, .string x.text, .slice a1 l1 c1, .slice a2 l2 c2] 26)) (.cells #[.int .i64 0, .bool false, .int .i64 0, .string ⟨#[]⟩, .slice none 0 0, .slice none 0 0] 26)
    rw [z1] at this
    rw [hw1]; exact this
  have z2 : w1.heap.size = w.heap.size + 2 := by rw [hw1]; simp
  obtain ⟨vn, vi, e, -, hns, his⟩ := h
  simp only [List.cons.injEq, and_true, true_and] at e
  obtain ⟨-, rfl, rfl⟩ := e
  have hns1 := hns.same fun b hb => b1.block b (hS b hb)
  have his1 : NodesIn (NodeIn d S w1) S w1 (.slice a2 l2 c2) x.items := his.same (fun b hb => b1.block b (hS b hb)) fun cs y q => q.same fun b hb => b1.block b (hS b hb)
  obtain ⟨ao2, cap2, e2, r1, r2, -⟩ := id his1
  cases e2
  have IX := Lib.hid (idxstr_any _ _ s w1 hns1)
  have c0 := six_of k0
  have f1 := free_six k1
  have t1 := six_of k1
  have HIS := Lib.hid his1
  have K1 := Lib.hid k1
  have B1 := Lib.hid b1
  have Z2 := Lib.hid z2
  have HS := Lib.hid hS
  have HL := Lib.hid hlow
  have HLEN := Lib.hid hlen
  have hmx : x.items.length ≤ maxLen := by omega
  cases hf : x.names.findIdx? (fun t => decide (t = s)) with
  | none =>
    have hi : idxZ x.names s = -1 := by unfold idxZ; rw [hf]
    rw [hf] at hg
    rw [hi] at IX
    rw [hg]
    clear hns hns1 his his1 b1 k0 z1 z2 hS hlow hlen hf hi hg hk r1 r2 k1
    go_enter Tryd.func16, Tryd.ntmps16
    go_upto_region 1 with fail
    rw [← hw1]
    clear hw1
    go_wp2_with (go_at_call 32; (with_reducible refine (IX.out).mono ?_); rintro e w2 ⟨rfl, rfl⟩)
    have hput := six_put K1.out (.int .i64 0) (.bool false) (.int .i64 0) (.string ⟨#[]⟩) (.slice none 0 0) (.slice none 0 0)
    have hgf := grown_set6 w1 (w.heap.size + 1) (.int .i64 0) (.bool false) (.int .i64 0) (.string ⟨#[]⟩) (.slice none 0 0) (.slice none 0 0)
    have hbb := B1.out
    refine bodyPost_ret (v := .tuple #[.agg #[.int .i64 0, .bool false, .int .i64 0, .string ⟨#[]⟩, .slice none 0 0, .slice none 0 0], .bool false]) ?_ ?_ ?_
    rotate_left
    · rfl
    · exact ⟨[.int .i64 0, .bool false, .int .i64 0, .string ⟨#[]⟩, .slice none 0 0, .slice none 0 0], rfl, (node_leaf _ _ 0 false 0 ⟨#[]⟩ (by decide)).deeper (by omega), hbb.grown hgf hbb.size (fun b e => by have := Option.some.inj e; omega)⟩
    · obtain ⟨q0, q1, q2, q3, q4, q5⟩ := six_of hput
      simp only [set6] at q0 q1 q2 q3 q4 q5
      simp [results, Tryd.results16, go_sem, q0, q1, q2, q3, q4, q5]
  | some i =>
    have hi : idxZ x.names s = (i : Int) := by unfold idxZ; rw [hf]
    have hil : i < x.items.length := by
      have := lt_of_some (findIdx_some hf).1
      omega
    rw [hf] at hg
    have hil' : (i : Int) < (x.items.length : Int) := by omega
    have hi0 : (0 : Int) ≤ (i : Int) := by omega
    rw [hi] at IX
    obtain ⟨-, -, -, b, off, y, b1', m1, n1, b2', m2, n2, rfl, hSb, hx, hnd, q0, q1, q2, q3, q4, q5⟩ := his1.at hil
    have hgy : getN x s = some y := hg.trans hx
    rw [hgy]
    have CC := Lib.hid (ccopy_any d S _ y w1 hnd (fun b hb => Nat.lt_of_lt_of_le (hS b hb) b1.size) (hlow.2.2 y (List.mem_of_getElem? hx)))
    clear hns hns1 his his1 b1 k0 z1 z2 hS hlow hlen hf hi hg hk r1 r2 k1 hil hx hnd hgy
    go_enter Tryd.func16, Tryd.ntmps16
    go_upto_region 1 with fail
    rw [← hw1]
    clear hw1
    go_wp2_with (first
      | (go_at_call 32; (with_reducible refine (IX.out).mono ?_); rintro e w2 ⟨rfl, rfl⟩)
      | (go_at_call 33; (with_reducible refine (CC.out).mono ?_); rintro e w2 ⟨cs3, rfl, hm, hb2⟩; obtain ⟨a3, l3, c3, a4, l4, c4, rfl⟩ := hm.slices; (have hk3 := (hb2.block _ (lt_of_block K1.out)).trans K1.out); (have f3 := free_six hk3); (have t3 := six_of hk3); clear hk3))
    have hk3 := (hb2.block _ (lt_of_block K1.out)).trans K1.out
    have hput := six_put hk3 (.int .i64 y.kind) (.bool y.bool) (.int .i64 y.num) (.string y.text) (.slice a3 l3 c3) (.slice a4 l4 c4)
    have hgf := grown_set6 w2 (w.heap.size + 1) (.int .i64 y.kind) (.bool y.bool) (.int .i64 y.num) (.string y.text) (.slice a3 l3 c3) (.slice a4 l4 c4)
    have hbb := B1.out.trans (hb2.mono B1.out.size)
    have hz2 := Z2.out
    refine bodyPost_ret (v := .tuple #[.agg #[.int .i64 y.kind, .bool y.bool, .int .i64 y.num, .string y.text, .slice a3 l3 c3, .slice a4 l4 c4], .bool true]) ?_ ?_ ?_
    rotate_left
    · rfl
    · have e1 : ∀ b, Fr w1.heap.size w2 b → (set6 w2 (w.heap.size + 1) (.int .i64 y.kind) (.bool y.bool) (.int .i64 y.num) (.string y.text) (.slice a3 l3 c3) (.slice a4 l4 c4)).heap[b]? = w2.heap[b]? := fun b hb => hgf.block b hb.2.1 (by intro e; have := Option.some.inj e; have := hb.1; omega)
      exact ⟨[.int .i64 y.kind, .bool y.bool, .int .i64 y.num, .string y.text, .slice a3 l3 c3, .slice a4 l4 c4], rfl, ((hm.same e1).mono fun b hb => hb.move (e1 b hb) (by omega) hgf.size).deeper (by omega), hbb.grown hgf hbb.size (fun b e => by have := Option.some.inj e; omega)⟩
    · obtain ⟨q0, q1, q2, q3, q4, q5⟩ := six_of hput
      simp only [set6] at q0 q1 q2 q3 q4 q5
      simp [results, Tryd.results16, go_sem, q0, q1, q2, q3, q4, q5]
end Go.Proofs.YthcgkkafbobfoaaDoor
