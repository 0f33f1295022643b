/- Text, Number, List, Map, Get. -/
import Derived.Test.YthcgkkafbobfoaaDoorNput
namespace Go.Proofs.YthcgkkafbobfoaaDoor
open Go Go.ChangeShapes Go.WideShapes Go.ChangeAt Go.RowKit
set_option linter.unusedVariables false
set_option linter.unusedSimpArgs false

set_option maxRecDepth 100000 in
theorem ntext_any (s : ByteArray) (w : World) : Calls Tryd.prog 22 #[.string s] w fun e w' => e = .returned (.agg #[.int .i64 3, .bool false, .int .i64 0, .string s, .slice none 0 0, .slice none 0 0]) ∧ Below w.heap.size w w' := by
  go_enter Tryd.func22, Tryd.ntmps22
  go_wp2
  refine bodyPost_ret (v := .agg #[.int .i64 3, .bool false, .int .i64 0, .string s, .slice none 0 0, .slice none 0 0]) ?_ ?_ ?_
  rotate_left
  · rfl
  · exact ⟨rfl, (Below.refl _ _).alloc (Nat.le_refl _) _⟩
  · obtain ⟨q0, q1, q2, q3, q4, q5⟩ := six_of (heap_alloc_new w (.cells #[.int .i64 3, .bool false, .int .i64 0, .string s, .slice none 0 0, .slice none 0 0] 26))
    simp [results, Tryd.results22, go_sem, q0, q1, q2, q3, q4, q5]
set_option maxRecDepth 100000 in
theorem nnum_any (z : Int) (w : World) : Calls Tryd.prog 23 #[.int .i64 z] w fun e w' => e = .returned (.agg #[.int .i64 2, .bool false, .int .i64 z, .string ⟨#[]⟩, .slice none 0 0, .slice none 0 0]) ∧ Below w.heap.size w w' := by
  go_enter Tryd.func23, Tryd.ntmps23
  go_wp2
  refine bodyPost_ret (v := .agg #[.int .i64 2, .bool false, .int .i64 z, .string ⟨#[]⟩, .slice none 0 0, .slice none 0 0]) ?_ ?_ ?_
  rotate_left
  · rfl
  · exact ⟨rfl, (Below.refl _ _).alloc (Nat.le_refl _) _⟩
  · obtain ⟨q0, q1, q2, q3, q4, q5⟩ := six_of (heap_alloc_new w (.cells #[.int .i64 2, .bool false, .int .i64 z, .string ⟨#[]⟩, .slice none 0 0, .slice none 0 0] 26))
    simp [results, Tryd.results23, go_sem, q0, q1, q2, q3, q4, q5]
set_option maxHeartbeats 800000 in
set_option maxRecDepth 100000 in
theorem nlist_any (d : Nat) (S : Nat → Prop) (v : Value) (its : List ND) (w : World) (h : NodesIn (NodeIn d S w) S w v its) (hS : ∀ b, S b → b < w.heap.size) (hl : its.length ≤ 1000000) (hlow : ∀ y, y ∈ its → lowN d y) : Calls Tryd.prog 7 #[v] w (NodeNew (d + 1) w (.mk 4 false 0 ⟨#[]⟩ [] its)) := by
  obtain ⟨ao, cap, rfl, h1, h2, h3⟩ := id h
  have b1 := (Below.refl w.heap.size w).alloc (o := .cells #[.int .i64 0, .bool false, .int .i64 0, .string ⟨#[]⟩, .slice none 0 0, .slice none 0 0] 26) (Nat.le_refl _)
  have CI := Lib.hid (citems_any d S _ its _ (h.same (fun b hb => b1.block b (hS b hb)) fun cs y q => q.same fun b hb => b1.block b (hS b hb)) (fun b hb => Nat.lt_of_lt_of_le (hS b hb) b1.size) hl hlow)
  have hr := heap_alloc_new w (.cells #[.int .i64 0, .bool false, .int .i64 0, .string ⟨#[]⟩, .slice none 0 0, .slice none 0 0] 26)
  have B1 := Lib.hid b1
  have HR := Lib.hid hr
  clear h hS hl hlow h3 b1 hr
  go_enter Tryd.func7, Tryd.ntmps7
  go_wp2_with (go_at_call 25; (with_reducible refine (CI.out).mono ?_); rintro e w2 ⟨v2, rfl, hv2, hb2⟩; obtain ⟨a4, c4, rfl, hv2r⟩ := hv2; (have hk2 := (hb2.block _ (lt_of_block HR.out)).trans HR.out); (have f2 := free_six hk2); (have c2 := six_of hk2); clear hk2)
  have hv2 : NodesIn (NodeIn d (Fr (w.alloc (.cells #[.int .i64 0, .bool false, .int .i64 0, .string ⟨#[]⟩, .slice none 0 0, .slice none 0 0] 26)).heap.size w2) w2) (Fr (w.alloc (.cells #[.int .i64 0, .bool false, .int .i64 0, .string ⟨#[]⟩, .slice none 0 0, .slice none 0 0] 26)).heap.size w2) w2 (.slice a4 its.length c4) its := ⟨a4, c4, rfl, hv2r⟩
  have hk2 := (hb2.block _ (lt_of_block HR.out)).trans HR.out
  have hput := six_put hk2 (.int .i64 4) (.bool false) (.int .i64 0) (.string ⟨#[]⟩) (.slice none 0 0) (.slice a4 its.length c4)
  have hgf := grown_set6 w2 w.heap.size (.int .i64 4) (.bool false) (.int .i64 0) (.string ⟨#[]⟩) (.slice none 0 0) (.slice a4 its.length c4)
  have hz1 : (w.alloc (.cells #[.int .i64 0, .bool false, .int .i64 0, .string ⟨#[]⟩, .slice none 0 0, .slice none 0 0] 26)).heap.size = w.heap.size + 1 := by simp
  rw [hz1] at hv2
  refine bodyPost_ret (v := .agg #[.int .i64 4, .bool false, .int .i64 0, .string ⟨#[]⟩, .slice none 0 0, .slice a4 its.length c4]) ?_ ?_ ?_
  rotate_left
  · rfl
  · have e2 : ∀ b, Fr (w.heap.size + 1) w2 b → (set6 w2 w.heap.size (.int .i64 4) (.bool false) (.int .i64 0) (.string ⟨#[]⟩) (.slice none 0 0) (.slice a4 its.length c4)).heap[b]? = w2.heap[b]? := fun b hb => hgf.block b hb.2.1 (by intro e; have := Option.some.inj e; have := hb.1; omega)
    refine ⟨[.int .i64 4, .bool false, .int .i64 0, .string ⟨#[]⟩, .slice none 0 0, .slice a4 its.length c4], rfl, ⟨_, _, rfl, Nat.zero_le _, StrsIn.nil _ _, ?_⟩, ?_⟩
    · exact (hv2.same e2 fun cs y q => q.same e2).mono (fun b hb => hb.move (e2 b hb) (by omega) hgf.size) fun cs y q => q.mono fun b hb => hb.move (e2 b hb) (by omega) hgf.size
    · have hbb := B1.out.trans (hb2.mono B1.out.size)
      exact ⟨hgf.os.trans hbb.os, hgf.tape.trans hbb.tape, hgf.output.trans hbb.output, Nat.le_trans hbb.size hgf.size, fun b hb => (hgf.block b (Nat.lt_of_lt_of_le hb hbb.size) (by intro e; have := Option.some.inj e; omega)).trans (hbb.block b hb)⟩
  · obtain ⟨q0, q1, q2, q3, q4, q5⟩ := six_of hput
    simp only [set6] at q0 q1 q2 q3 q4 q5
    simp [results, Tryd.results7, go_sem, q0, q1, q2, q3, q4, q5]
set_option maxHeartbeats 1600000 in
set_option maxRecDepth 100000 in
theorem nmap_any (d : Nat) (S : Nat → Prop) (v v' : Value) (ns : List ByteArray) (its : List ND) (w : World) (h : NodesIn (NodeIn d S w) S w v' its) (hn : StrsIn S w v ns) (hS : ∀ b, S b → b < w.heap.size) (hl : its.length ≤ 1000000) (hln : ns.length ≤ 1000000) (hlow : ∀ y, y ∈ its → lowN d y) : Calls Tryd.prog 27 #[v, v'] w (NodeNew (d + 1) w (.mk 5 false 0 ⟨#[]⟩ ns its)) := by
  obtain ⟨ao, cap, rfl, h1, h2, h3⟩ := id h
  obtain ⟨an, capn, rfl, n1, n2, n3⟩ := id hn
  have b1 := (Below.refl w.heap.size w).alloc (o := .cells #[.int .i64 0, .bool false, .int .i64 0, .string ⟨#[]⟩, .slice none 0 0, .slice none 0 0] 26) (Nat.le_refl _)
  obtain ⟨w1, hw1⟩ : ∃ W, W = w.alloc (.cells #[.int .i64 0, .bool false, .int .i64 0, .string ⟨#[]⟩, .slice none 0 0, .slice none 0 0] 26) := ⟨_, rfl⟩
  have hr := heap_alloc_new w (.cells #[.int .i64 0, .bool false, .int .i64 0, .string ⟨#[]⟩, .slice none 0 0, .slice none 0 0] 26)
  have hz1 : w1.heap.size = w.heap.size + 1 := by rw [hw1]; simp
  rw [← hw1] at b1 hr
  have CT := Lib.hid (ctexts_any _ ns w1 (hn.same fun b hb => b1.block b (hS b hb)) hln)
  have CI := Lib.hid (fun (wx : World) (hb : Below w1.heap.size w1 wx) => citems_any d S _ its wx (h.same (fun b hb' => (hb.block b (Nat.lt_of_lt_of_le (hS b hb') b1.size)).trans (b1.block b (hS b hb'))) fun cs y q => q.same fun b hb' => (hb.block b (Nat.lt_of_lt_of_le (hS b hb') b1.size)).trans (b1.block b (hS b hb'))) (fun b hb' => Nat.lt_of_lt_of_le (Nat.lt_of_lt_of_le (hS b hb') b1.size) hb.size) hl hlow)
  have B1 := Lib.hid b1
  have HR := Lib.hid hr
  have HZ := Lib.hid hz1
  clear h hn hS hl hln hlow h3 n3 b1 hr hz1
  go_enter Tryd.func27, Tryd.ntmps27
  go_upto_region 1 with fail
  rw [← hw1]
  clear hw1
  go_wp2_with (first
    | (go_at_call 30; (with_reducible refine (CT.out).mono ?_); rintro e w2 ⟨v1, rfl, hv1, hv1o, hb2, hrow⟩; obtain ⟨a3, c3, rfl, hv1r⟩ := hv1)
    | (go_at_call 25; (with_reducible refine (CI.out _ hb2).mono ?_); rintro e w3 ⟨v2, rfl, hv2, hb3⟩; obtain ⟨a4, c4, rfl, hv2r⟩ := hv2; (have hk3 := (hb3.block _ (Nat.lt_of_lt_of_le (lt_of_block HR.out) hb2.size)).trans ((hb2.block _ (lt_of_block HR.out)).trans HR.out)); (have f3 := free_six hk3); (have c3' := six_of hk3); clear hk3))
  have hv2 : NodesIn (NodeIn d (Fr w2.heap.size w3) w3) (Fr w2.heap.size w3) w3 (.slice a4 its.length c4) its := ⟨a4, c4, rfl, hv2r⟩
  have hv1 : StrsIn (Fr w1.heap.size w2) w2 (.slice a3 ns.length c3) ns := ⟨a3, c3, rfl, hv1r⟩
  have hk3 := (hb3.block _ (Nat.lt_of_lt_of_le (lt_of_block HR.out) hb2.size)).trans ((hb2.block _ (lt_of_block HR.out)).trans HR.out)
  have hput := six_put hk3 (.int .i64 5) (.bool false) (.int .i64 0) (.string ⟨#[]⟩) (.slice a3 ns.length c3) (.slice a4 its.length c4)
  have hgf := grown_set6 w3 w.heap.size (.int .i64 5) (.bool false) (.int .i64 0) (.string ⟨#[]⟩) (.slice a3 ns.length c3) (.slice a4 its.length c4)
  have hz1 := HZ.out
  have hs2 := hb2.size
  refine bodyPost_ret (v := .agg #[.int .i64 5, .bool false, .int .i64 0, .string ⟨#[]⟩, .slice a3 ns.length c3, .slice a4 its.length c4]) ?_ ?_ ?_
  rotate_left
  · rfl
  · have e1 : ∀ b, Fr w1.heap.size w2 b → (set6 w3 w.heap.size (.int .i64 5) (.bool false) (.int .i64 0) (.string ⟨#[]⟩) (.slice a3 ns.length c3) (.slice a4 its.length c4)).heap[b]? = w2.heap[b]? := fun b hb => (hgf.block b (Nat.lt_of_lt_of_le hb.2.1 hb3.size) (by intro e; have := Option.some.inj e; have := hb.1; omega)).trans (hb3.block b hb.2.1)
    have e2 : ∀ b, Fr w2.heap.size w3 b → (set6 w3 w.heap.size (.int .i64 5) (.bool false) (.int .i64 0) (.string ⟨#[]⟩) (.slice a3 ns.length c3) (.slice a4 its.length c4)).heap[b]? = w3.heap[b]? := fun b hb => hgf.block b hb.2.1 (by intro e; have := Option.some.inj e; have := hb.1; omega)
    refine ⟨[.int .i64 5, .bool false, .int .i64 0, .string ⟨#[]⟩, .slice a3 ns.length c3, .slice a4 its.length c4], rfl, ⟨_, _, rfl, Nat.zero_le _, ?_, ?_⟩, ?_⟩
    · exact (hv1.same e1).mono fun b hb => hb.move (e1 b hb) (by omega) (Nat.le_trans hb3.size hgf.size)
    · exact (hv2.same e2 fun cs y q => q.same e2).mono (fun b hb => hb.move (e2 b hb) (by omega) hgf.size) fun cs y q => q.mono fun b hb => hb.move (e2 b hb) (by omega) hgf.size
    · have hbb := B1.out.trans ((hb2.trans (hb3.mono hb2.size)).mono B1.out.size)
      exact ⟨hgf.os.trans hbb.os, hgf.tape.trans hbb.tape, hgf.output.trans hbb.output, Nat.le_trans hbb.size hgf.size, fun b hb => (hgf.block b (Nat.lt_of_lt_of_le hb hbb.size) (by intro e; have := Option.some.inj e; omega)).trans (hbb.block b hb)⟩
  · obtain ⟨q0, q1, q2, q3, q4, q5⟩ := six_of hput
    simp only [set6] at q0 q1 q2 q3 q4 q5
    simp [results, Tryd.results27, go_sem, q0, q1, q2, q3, q4, q5]
end Go.Proofs.YthcgkkafbobfoaaDoor
