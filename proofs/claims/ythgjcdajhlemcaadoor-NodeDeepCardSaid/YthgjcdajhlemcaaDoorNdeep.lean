/- The walk of the statement NodeDeep: for every pair of numbers the Go text returns true, provided that the two tables of unicode/utf8 read as the program lays them. -/
import Derived.Test.YthgjcdajhlemcaaDoorNawk
namespace Go.Proofs.YthgjcdajhlemcaaDoor
open Go Go.ChangeShapes Go.WideShapes Go.ChangeAt Go.RowKit
set_option linter.unusedVariables false
set_option linter.unusedSimpArgs false

/-- Lists around the zero node. -/
def nest : Nat → ND
  | 0 => nd0
  | k + 1 => .mk 4 false 0 ⟨#[]⟩ [] [nest k]
def flatL (n : Nat) : ND := .mk 4 false 0 ⟨#[]⟩ [] (List.replicate n nd0)
theorem nest_low : ∀ (d k : Nat), lowN d (nest k)
  | 0, _ => trivial
  | d + 1, 0 => ⟨Nat.zero_le _, Nat.zero_le _, fun y hy => by cases hy⟩
  | d + 1, k + 1 => ⟨Nat.zero_le _, by show 1 ≤ 1000000; decide, fun y hy => by cases List.mem_singleton.1 hy; exact nest_low d k⟩
theorem flat_low (N : Nat) (h : N ≤ 1000000) : lowN 2 (flatL N) := ⟨Nat.zero_le _, by show (List.replicate N nd0).length ≤ _; rw [List.length_replicate]; exact h, fun y hy => by rw [List.eq_of_mem_replicate hy]; exact nest_low 1 0⟩
theorem nest_valid (k : Nat) (h : k < 12) : validN 8 (nest k) = decide (k < 8) := by
  have : ∀ k : Fin 12, validN 8 (nest k.1) = decide (k.1 < 8) := by decide +kernel
  exact this ⟨k, h⟩
theorem flat_valid (q : Nat) (h : q < 4) : validN 8 (flatL (254 + q)) = decide (q ≤ 2) := by
  have : ∀ q : Fin 4, validN 8 (flatL (254 + q.1)) = decide (q.1 ≤ 2) := by decide +kernel
  exact this ⟨q, h⟩
/-- A row that 'make' lays. -/
theorem made_at (z : Array Value) (N j f : Nat) (u : Value) (hz : z.size = 6) (hj : j < N) (hu : z[f]? = some u) : (madeCells z (N * 6)).toList[j * 6 + f]? = some u := by
  have hf : f < 6 := by rw [← hz]; exact (Array.getElem?_eq_some_iff.1 hu).1
  have hlt : j * 6 + f < N * 6 := by omega
  have e : (j * 6 + f) % 6 = f := by omega
  have hu' : z[f]! = u := by
    rw [getElem!_def, hu]
  simp [madeCells, hz, e, hlt, hu']
theorem made_nodes {w1 : World} {B N g : Nat} {TN : TypeId} (h : w1.ownsRow B TN 6 (.slice (some ⟨g, 0, none⟩) N N) N (madeCells (Value.agg #[.int .i64 0, .bool false, .int .i64 0, .string ⟨#[]⟩, .slice none 0 0, .slice none 0 0]).cells (N * 6)).toList) (hN : N ≤ maxLen) (hg : g < w1.heap.size) :
    NodesIn (NodeIn 1 (fun b => b < w1.heap.size) w1) (fun b => b < w1.heap.size) w1 (.slice (some ⟨g, 0, none⟩) N N) (List.replicate N nd0) := by
  refine ⟨_, N, by rw [List.length_replicate], by rw [List.length_replicate]; exact Nat.le_refl _, hN, fun j x hj => ?_⟩
  have hjN : j < N := by have := lt_of_some hj; rw [List.length_replicate] at this; exact this
  have hx : x = nd0 := List.eq_of_mem_replicate (List.mem_of_getElem? hj)
  subst hx
  refine ⟨g, 0, [.int .i64 0, .bool false, .int .i64 0, .string ⟨#[]⟩, .slice none 0 0, .slice none 0 0], rfl, hg, fun f u hu => ?_, node_leaf _ _ 0 false 0 ⟨#[]⟩ (by decide)⟩
  have := h.cells (g := g) rfl _ _ (made_at #[.int .i64 0, .bool false, .int .i64 0, .string ⟨#[]⟩, .slice none 0 0, .slice none 0 0] N j f u rfl hjN (by simpa using hu))
  rw [Addr.add_lit, ← Nat.add_assoc] at this; exact this
/-- What the loop holds: the node's block nb. -/
def DSt (TN : TypeId) (w wr : World) (nb j : Nat) : Prop := ∃ (K : Int) (a1 : Option Addr) (l1 c1 : Nat) (a2 : Option Addr) (l2 c2 : Nat), wr.heap[nb]? = some (.cells #[.int .i64 K, .bool false, .int .i64 0, .string ⟨#[]⟩, .slice a1 l1 c1, .slice a2 l2 c2] TN (0, 0)) ∧ NodeIn (j + 1) (fun b => b ≠ nb ∧ b < wr.heap.size) wr [.int .i64 K, .bool false, .int .i64 0, .string ⟨#[]⟩, .slice a1 l1 c1, .slice a2 l2 c2] (nest j) ∧ Below w.heap.size w wr
/-- One list more. -/
theorem deep_list {w wr : World} {nb j : Nat} {K : Int} {a1 a2 : Option Addr} {l1 c1 l2 c2 : Nat} (h : NodeIn (j + 1) (fun b => b ≠ nb ∧ b < wr.heap.size) wr [.int .i64 K, .bool false, .int .i64 0, .string ⟨#[]⟩, .slice a1 l1 c1, .slice a2 l2 c2] (nest j)) :
    Calls Tryd.prog 7 #[.slice (some ⟨wr.heap.size, 0, none⟩) 1 1] (wr.alloc (.cells #[.int .i64 K, .bool false, .int .i64 0, .string ⟨#[]⟩, .slice a1 l1 c1, .slice a2 l2 c2] 26)) (fun e w' => (∃ cs : List Value, e = .returned (.agg cs.toArray) ∧ NodeIn (j + 2) (fun b => wr.heap.size ≤ b ∧ b < w'.heap.size) w' cs (nest (j + 1))) ∧ Below wr.heap.size wr w') := by
  obtain ⟨w4, hw4⟩ : ∃ W, W = wr.alloc (.cells #[.int .i64 K, .bool false, .int .i64 0, .string ⟨#[]⟩, .slice a1 l1 c1, .slice a2 l2 c2] 26) := ⟨_, rfl⟩
  have hk := heap_alloc_new wr (.cells #[.int .i64 K, .bool false, .int .i64 0, .string ⟨#[]⟩, .slice a1 l1 c1, .slice a2 l2 c2] 26)
  have b4 := (Below.refl wr.heap.size wr).alloc (o := .cells #[.int .i64 K, .bool false, .int .i64 0, .string ⟨#[]⟩, .slice a1 l1 c1, .slice a2 l2 c2] 26) (Nat.le_refl _)
  have hz : w4.heap.size = wr.heap.size + 1 := by rw [hw4]; simp
  rw [← hw4] at hk b4 ⊢
  refine (nlist_any (j + 1) (fun b => b < w4.heap.size) _ [nest j] w4 (nodes_of_block [([.int .i64 K, .bool false, .int .i64 0, .string ⟨#[]⟩, .slice a1 l1 c1, .slice a2 l2 c2], nest j)] hk rfl (lt_of_block hk) (show 1 ≤ maxLen by decide) ?_) (fun b hb => hb) (show 1 ≤ 1000000 by decide) ?_).mono ?_
  · intro y hy
    cases List.mem_singleton.1 hy
    exact (h.same fun b hb => b4.block b hb.2).mono fun b hb => by have := hb.2; omega
  · intro y hy
    cases List.mem_singleton.1 hy; exact nest_low _ _
  · rintro e w' ⟨cs, rfl, hn, hb'⟩
    exact ⟨⟨cs, rfl, hn.mono fun b hb => ⟨by have := hb.1; omega, hb.2.1⟩⟩, b4.trans (hb'.mono b4.size)⟩
set_option maxHeartbeats 1600000 in
set_option maxRecDepth 100000 in
theorem deep_walk (n m : Int) (w : World) (n0 : 0 ≤ n) (n1 : n ≤ 65535) (m0 : 0 ≤ m) (m1 : m ≤ 65535) (hT : Utab w) :
    Calls Tryd.prog 3 #[.int .u16 n, .int .u16 m] w fun e w' => e = .returned (.bool true) ∧ Below w.heap.size w w' := by
  obtain ⟨i0, hi, hz0, hz1, hz2⟩ := infon
  obtain ⟨k, hk⟩ : ∃ k : Nat, n % 12 = (k : Int) := ⟨(n % 12).toNat, by omega⟩
  obtain ⟨q, hq⟩ : ∃ q : Nat, m % 4 = (q : Int) := ⟨(m % 4).toNat, by omega⟩
  have hk12 : k < 12 := by omega
  have hq4 : q < 4 := by omega
  have HT := Lib.hid hT
  have h0 := heap_alloc_new w (.cells #[.int .i64 0, .bool false, .int .i64 0, .string ⟨#[]⟩, .slice none 0 0, .slice none 0 0] 26)
  have b0 := (Below.refl w.heap.size w).alloc (o := .cells #[.int .i64 0, .bool false, .int .i64 0, .string ⟨#[]⟩, .slice none 0 0, .slice none 0 0] 26) (Nat.le_refl _)
  have D0 := Lib.hid (show DSt 26 w (w.alloc (.cells #[.int .i64 0, .bool false, .int .i64 0, .string ⟨#[]⟩, .slice none 0 0, .slice none 0 0] 26)) w.heap.size 0 from ⟨0, none, 0, 0, none, 0, 0, h0, node_leaf _ _ 0 false 0 ⟨#[]⟩ (by decide), b0⟩)
  clear hT h0 b0
  go_enter Tryd.func3, Tryd.ntmps3
  go_wp2
  rw [hk]
  have HK := Lib.hid hk
  have HQ := Lib.hid hq
  clear hk hq
  go_loopw [10] (fun i wr => ∃ j : Nat, i = .int .u16 j ∧ j ≤ k ∧ DSt 26 w wr w.heap.size j) (fun i _ => k - (intOf i).toNat)
  case atStart => exact ⟨0, rfl, Nat.zero_le _, D0.out⟩
  case round =>
    obtain ⟨j, rfl, hj, hst⟩ := hrel
    obtain ⟨K, a1, l1, c1, a2, l2, c2, hblk, hn, hB⟩ := hst
    by_cases hlt : j < k
    · have hlt' : (j : Int) < (k : Int) := by omega
      have c0 := six_of hblk
      have LL := Lib.hid (deep_list (w := w) hn)
      have HBLK := Lib.hid hblk
      have HB := Lib.hid hB
      clear hblk hn hB
      go_wp2_with (go_at_call 7; refine (LL.out).mono ?_; rintro e w5 ⟨⟨cs, rfl, hm⟩, hb5⟩; obtain ⟨a3, l3, c3, a4, l4, c4, rfl⟩ : ∃ a1 l1 c1 a2 l2 c2, cs = [.int .i64 4, .bool false, .int .i64 0, .string ⟨#[]⟩, .slice a1 l1 c1, .slice a2 l2 c2] := hm.slices; (have hk3 := (hb5.block _ (lt_of_block HBLK.out)).trans HBLK.out); (have f3 := free_six hk3); (have q3 := six_of hk3); clear hk3)
      go_round
      case rel =>
        have hk3 := (hb5.block _ (lt_of_block HBLK.out)).trans HBLK.out
        have hlk := lt_of_block HBLK.out
        have hput := six_put hk3 (.int .i64 4) (.bool false) (.int .i64 0) (.string ⟨#[]⟩) (.slice a3 l3 c3) (.slice a4 l4 c4)
        have hgf := grown_set6 w5 w.heap.size (.int .i64 4) (.bool false) (.int .i64 0) (.string ⟨#[]⟩) (.slice a3 l3 c3) (.slice a4 l4 c4)
        refine ⟨j + 1, by go_num, by omega, 4, a3, l3, c3, a4, l4, c4, hput, ?_, ?_⟩
        · exact (hm.same fun b hb => hgf.block b hb.2 (by intro e; have := Option.some.inj e; have := hb.1; omega)).mono fun b hb => ⟨by have := hb.1; omega, Nat.lt_of_lt_of_le hb.2 hgf.size⟩
        · exact (HB.out.trans (hb5.mono HB.out.size)).grown hgf (Nat.le_trans HB.out.size hb5.size) (fun b e => by have := Option.some.inj e; omega)
      case measure => simp [intOf]; omega
    · have hlt' : ¬ (j : Int) < (k : Int) := by omega
      obtain rfl : j = k := by omega
      have c0 := six_of hblk
      have HN := Lib.hid hn
      have HBLK := Lib.hid hblk
      have HB := Lib.hid hB
      have hq := HQ.out
      have hmk : maxLen ≥ 1000 := by decide
      obtain ⟨N, hN⟩ : ∃ N : Nat, N = 254 + q := ⟨_, rfl⟩
      have HNN := Lib.hid hN
      have hNi : (254 + (q : Int)) = (N : Int) := by omega
      have MD := Lib.hid (fun (w1 : World) (B g : Nat) (h : w1.ownsRow B 26 6 (.slice (some ⟨g, 0, none⟩) N N) N (madeCells (Value.agg #[.int .i64 0, .bool false, .int .i64 0, .string ⟨#[]⟩, .slice none 0 0, .slice none 0 0]).cells (N * 6)).toList) (hg : g < w1.heap.size) => (nlist_any 1 (fun b => b < w1.heap.size) _ _ w1 (made_nodes h (by omega) hg) (fun b hb => hb) (by rw [List.length_replicate]; omega) (fun y hy => by rw [List.eq_of_mem_replicate hy]; exact nest_low 1 0)))
      clear hblk hn hB hj hlt hN
      go_upto_region 7 with (first
        | (at_make; refine wpList_make_full _ rfl _ _ 24 rfl _ 26 i0 (.agg #[.int .i64 0, .bool false, .int .i64 0, .string ⟨#[]⟩, .slice none 0 0, .slice none 0 0]) 6 Tryd.underlying24 hi hz0 hz1 .i64 .i64 _ _ N rfl rfl rfl rfl (by rw [hz2]; have := HNN.out; omega) (by have := HNN.out; omega) (Nat.le_refl _) ?_; intro w1 hown hgrow; have hb1 : Below wr.heap.size wr w1 := below_of_grown hgrow; have ML := Lib.hid (MD.out w1 _ _ hown (hown.lt _ rfl).2); clear hown)
        | (go_at_call 7; refine (ML.out).mono ?_; rintro e w2 ⟨cs, rfl, hm, hb2⟩; obtain ⟨a3, l3, c3, a4, l4, c4, rfl⟩ : ∃ a1 l1 c1 a2 l2 c2, cs = [.int .i64 4, .bool false, .int .i64 0, .string ⟨#[]⟩, .slice a1 l1 c1, .slice a2 l2 c2] := hm.slices))
      have hkk := HK.out
      have b6 := (Below.refl w2.heap.size w2).alloc (o := .cells #[.int .i64 4, .bool false, .int .i64 0, .string ⟨#[]⟩, .slice a3 l3 c3, .slice a4 l4 c4] 26) (Nat.le_refl _)
      have hp7 := heap_alloc_new w2 (.cells #[.int .i64 4, .bool false, .int .i64 0, .string ⟨#[]⟩, .slice a3 l3 c3, .slice a4 l4 c4] 26)
      generalize w2.alloc (.cells #[.int .i64 4, .bool false, .int .i64 0, .string ⟨#[]⟩, .slice a3 l3 c3, .slice a4 l4 c4] 26) = W7 at b6 hp7 ⊢
      have hbW : Below wr.heap.size wr W7 := hb1.trans ((hb2.trans (b6.mono hb2.size)).mono hb1.size)
      have BT := HB.out.trans (hbW.mono HB.out.size)
      have V1 := Lib.hid (isvalid_any _ (nest j) W7 (HN.out.same fun b hb => hbW.block b hb.2) (fun b hb => Nat.lt_of_lt_of_le hb.2 hbW.size) (nest_low _ _) (HT.out.below BT))
      rw [nest_valid _ hk12] at V1
      have q5 := six_of ((hbW.block _ (lt_of_block HBLK.out)).trans HBLK.out)
      have V2 := Lib.hid (fun (wx : World) (hx : Below W7.heap.size W7 wx) => isvalid_any _ (flatL N) wx (hm.same fun b hb => (hx.block b (Nat.lt_of_lt_of_le hb.2.1 b6.size)).trans (b6.block b hb.2.1)) (fun b hb => Nat.lt_of_lt_of_le (Nat.lt_of_lt_of_le hb.2.1 b6.size) hx.size) (flat_low N (by have := HNN.out; omega)) (HT.out.below (BT.trans (hx.mono BT.size))))
      rw [HNN.out, flat_valid q hq4] at V2
      have HP7 := Lib.hid hp7
      have HBT := Lib.hid BT
      have Q6 := Lib.hid (fun (wx : World) (hx : Below W7.heap.size W7 wx) => six_of ((hx.block _ (lt_of_block hp7)).trans hp7))
      clear hb1 hb2 b6 hp7 hbW BT hm ML MD hgrow c0 hmk hNi
      have h8 : (j : Int) < 8 ∧ decide (j < 8) = true ∨ ¬ (j : Int) < 8 ∧ decide (j < 8) = false := by
        by_cases h : j < 8
        · exact .inl ⟨by omega, decide_eq_true h⟩
        · exact .inr ⟨by omega, decide_eq_false h⟩
      have h2 : (q : Int) ≤ 2 ∧ decide (q ≤ 2) = true ∨ ¬ (q : Int) ≤ 2 ∧ decide (q ≤ 2) = false := by
        by_cases h : q ≤ 2
        · exact .inl ⟨by omega, decide_eq_true h⟩
        · exact .inr ⟨by omega, decide_eq_false h⟩
      rcases h8 with ⟨g8, e8⟩ | ⟨g8, e8⟩ <;> rcases h2 with ⟨g2, e2⟩ | ⟨g2, e2⟩ <;> rw [e8] at V1 <;> rw [e2] at V2 <;> clear e8 e2
      all_goals
        go_wp2_with (first
          | (go_at_call 8; (with_reducible refine (V1.out).mono ?_); rintro e W8 ⟨rfl, hb8⟩; have q6 := Q6.out _ hb8)
          | (go_at_call 8; (with_reducible refine (V2.out _ hb8).mono ?_); rintro e W9 ⟨rfl, hb9⟩)
          | (go_at_call 9; (with_reducible refine (awake5_any _ (HT.out.below (HBT.out.trans ((hb8.trans (hb9.mono hb8.size)).mono HBT.out.size)))).mono ?_); rintro e W10 ⟨rfl, hb10⟩))
        go_ret
        refine ⟨by first | rfl | simp [g8, g2], ?_⟩
        exact HBT.out.trans ((hb8.trans ((hb9.trans (hb10.mono hb9.size)).mono hb8.size)).mono HBT.out.size)
end Go.Proofs.YthgjcdajhlemcaaDoor
