/- The sanity check of the statements of pack. -/
import Derived.Test.YtdppdonaojdceaaGreatDoorMkit
import Derived.Test.YtdppdonaojdceaaGreatDoorMdor8
import Derived.Test.YtdppdonaojdceaaGreatDoorJsm
import Derived.Test.YtdppdonaojdceaaGreatDoorMdc
import Derived.Test.YtdppdonaojdceaaGreatDoorNkn
import Derived.Test.YtdppdonaojdceaaGreatDoorNvw
import Derived.Test.YtdppdonaojdceaaGreatDoorSpoil
import Derived.Deep.DeepCutAuto
import Derived.Deep.CutRange
namespace Go.Proofs.YtdppdonaojdceaaGreatDoor
open Go Go.ChangeShapes Go.WideShapes Go.ChangeAt Go.RowKit
set_option linter.unusedVariables false
set_option linter.unusedSimpArgs false

set_option maxHeartbeats 1600000 in
set_option maxRecDepth 100000 in
theorem awake8_any (w : World) (hT : Ptab w) : Calls Tryz.prog 6 #[] w fun e w' => e = .returned (.bool true) ∧ Below w.heap.size w w' := by
 have E1 := Lib.hid (mpenc_any [.int .i64 2, .bool false, .int .i64 128, .string ⟨#[]⟩, .slice none 0 0, .slice none 0 0] (.mk 2 false 128 ⟨#[]⟩ [] []) w (node_leaf (fun b => b < w.heap.size) w 2 false 128 ⟨#[]⟩ (by decide)) (fun b h => h) (clowV (d := 8) (by decide +kernel) 1) (fun _ => by decide +kernel) hT)
 have E2 := Lib.hid (fun (wx : World) (hb : Below w.heap.size w wx) => mpenc_any [.int .i64 2, .bool false, .int .i64 (-33), .string ⟨#[]⟩, .slice none 0 0, .slice none 0 0] (.mk 2 false (-33) ⟨#[]⟩ [] []) wx (node_leaf (fun b => b < wx.heap.size) wx 2 false (-33) ⟨#[]⟩ (by decide)) (fun b h => h) (clowV (d := 8) (by decide +kernel) 1) (fun _ => by decide +kernel) (hT.below hb))
 unfold MEncPost at E1 E2
 rw [awkM1.1, awkM1.2] at E1
 rw [awkM2.1, awkM2.2] at E2
 have es1 : (ByteArray.toList { data := #[204, 128] } == ByteArray.toList { data := #[204, 128] }) = true := beq_self_eq_true _
 have es2 : (ByteArray.toList { data := #[208, 223] } == ByteArray.toList { data := #[208, 223] }) = true := beq_self_eq_true _
 go_enter Tryz.func6, Tryz.ntmps6
 go_upto_region 2 with (go_at_call 18; (with_reducible refine (E1.out).mono ?_); rintro e w1 ⟨rfl, hb1⟩)
 go_wp2_with (go_at_call 18; (with_reducible refine (E2.out _ hb1).mono ?_); rintro e w2 ⟨rfl, hb2⟩)
 go_ret
 exact ⟨rfl, hb1.trans (hb2.mono hb1.size)⟩
end Go.Proofs.YtdppdonaojdceaaGreatDoor
/- The walk of the statement PackTurns. -/
namespace Go.Proofs.YtdppdonaojdceaaGreatDoor
open Go Go.ChangeShapes Go.WideShapes Go.ChangeAt Go.RowKit
set_option linter.unusedVariables false
set_option linter.unusedSimpArgs false

/-- Between two rounds: the node itself, and the one that was read last. -/
structure TSt (T : TypeId) (w wr : World) (g5 g6 : Nat) (cs5 : List Value) (x : ND) : Prop where
 low : Below w.heap.size w wr
 g : w.heap.size ≤ g6 ∧ g5 ≠ g6
 b5 : wr.heap[g5]? = some (.cells cs5.toArray T (0, 0))
 n5 : NodeIn 9 (fun b => b ≠ g6 ∧ b < wr.heap.size) wr cs5 x
 h6 : ∃ cs6 : List Value, wr.heap[g6]? = some (.cells cs6.toArray T (0, 0)) ∧ NodeIn 9 (fun b => b ≠ g6 ∧ b < wr.heap.size) wr cs6 x
theorem TSt.to {T : TypeId} {w wr wn : World} {g5 g6 : Nat} {cs5 : List Value} {x : ND} (h : TSt T w wr g5 g6 cs5 x) (hb : Below wr.heap.size wr wn) : TSt T w wn g5 g6 cs5 x := by
 obtain ⟨cs6, b6, n6⟩ := h.h6
 have up : ∀ cs, NodeIn 9 (fun b => b ≠ g6 ∧ b < wr.heap.size) wr cs x → NodeIn 9 (fun b => b ≠ g6 ∧ b < wn.heap.size) wn cs x := fun cs n => (n.same fun b q => hb.block b q.2).mono fun b q => ⟨q.1, Nat.lt_of_lt_of_le q.2 hb.size⟩
 exact ⟨h.low.trans (hb.mono h.low.size), h.g, (hb.block _ (lt_of_block h.b5)).trans h.b5, up _ h.n5, cs6, (hb.block _ (lt_of_block b6)).trans b6, up _ n6⟩
theorem TSt.put {T : TypeId} {w wr : World} {g5 g6 : Nat} {cs5 : List Value} {x : ND} (h : TSt T w wr g5 g6 cs5 x) {a b c d e f : Value} (hn : NodeIn 9 (fun i => i ≠ g6 ∧ i < wr.heap.size) wr [a, b, c, d, e, f] x) : TSt T w (set6 wr g6 a b c d e f) g5 g6 cs5 x := by
 obtain ⟨cs6, b6, n6⟩ := h.h6
 obtain ⟨a1, l1, c1, a2, l2, c2, rfl⟩ := n6.slices
 have hg := grown_set6 wr g6 a b c d e f
 have up : ∀ cs, NodeIn 9 (fun i => i ≠ g6 ∧ i < wr.heap.size) wr cs x → NodeIn 9 (fun i => i ≠ g6 ∧ i < (set6 wr g6 a b c d e f).heap.size) (set6 wr g6 a b c d e f) cs x := fun cs n => (n.same fun i q => hg.block i q.2 (fun e => q.1 (Option.some.inj e))).mono fun i q => ⟨q.1, Nat.lt_of_lt_of_le q.2 hg.size⟩
 exact ⟨h.low.grown hg h.low.size (fun k hk => by cases hk; exact h.g.1), h.g, keepG hg h.g.2 h.b5, up _ h.n5, _, six_put b6 a b c d e f, up _ hn⟩
set_option maxHeartbeats 6400000 in
set_option maxRecDepth 100000 in
theorem turns8_walk (a : Option Addr) (len cap : Nat) (zs : List Int) (o : Int) (ho : 0 ≤ o ∧ o < 256) (w : World) (hn : NumsB w.heap.size w a len cap zs) (hT : Ftab w) :
  Calls Tryz.prog 4 #[.slice a len cap, .int .u8 o] w fun e w' => e = .returned (.bool true) ∧ Below w.heap.size w w' := by
 have AW := Lib.hid (fun (wx : World) (hb : Below w.heap.size w wx) => awake8_any wx (hT.below hb).p)
 have LI := Lib.hid (fun wx : World => light_any a len cap wx)
 have HT := Lib.hid hT
 have RO := Lib.hid (roll_any a len cap zs w hn)
 clear hn hT
 by_cases h500 : (len : Int) ≤ 500
 ·rw [decide_eq_true h500] at LI
  clear h500
  go_enter Tryz.func4, Tryz.ntmps4
  go_upto_region 4 with (first
   | (go_at_call 5; (with_reducible refine (LI.out _).mono ?_); rintro e w3 ⟨rfl, rfl⟩)
   | (go_at_call 7; (with_reducible refine (RO.out).mono ?_); rintro e w2 ⟨rfl, hb2, hd2⟩; (have hg2 := hd2.lt))
   | (go_at_call 16; (with_reducible refine (knode_litk w.heap.size w.heap.size 4 4 rfl (by decide) (by decide) _ hd2).mono ?_); rintro e w4 ⟨⟨cs1, x, rfl, hx, hv⟩, hg4, hd4⟩; obtain ⟨a1, l1, c1, a2, l2, c2, rfl⟩ := hx.slices))
  have K : KitF x := KitF.of (by decide) (validK_w hv) (validK_cost hv)
  have m1 : NodeIn 9 (fun b => b < w4.heap.size) w4 _ x := (hx.mono fun b hb => hb.2).deeper (by decide)
  have hs4 := hg4.size
  have hB4 : Below w.heap.size w w4 := hb2.grown hg4 hb2.size (fun k hk => by cases hk; exact Nat.le_refl _)
  have b5 := (Below.refl w4.heap.size w4).alloc (o := .cells #[.int .i64 x.kind, .bool x.bool, .int .i64 x.num, .string x.text, .slice a1 l1 c1, .slice a2 l2 c2] 30) (Nat.le_refl _)
  have k5 := heap_alloc_new w4 (.cells #[.int .i64 x.kind, .bool x.bool, .int .i64 x.num, .string x.text, .slice a1 l1 c1, .slice a2 l2 c2] 30)
  generalize w4.alloc _ = w5 at b5 k5 ⊢
  have f5 := six_of k5
  go_upto_region 5 with fail
  have b6 := (Below.refl w5.heap.size w5).alloc (o := .cells #[.int .i64 x.kind, .bool x.bool, .int .i64 x.num, .string x.text, .slice a1 l1 c1, .slice a2 l2 c2] 30) (Nat.le_refl _)
  have k6 := heap_alloc_new w5 (.cells #[.int .i64 x.kind, .bool x.bool, .int .i64 x.num, .string x.text, .slice a1 l1 c1, .slice a2 l2 c2] 30)
  generalize w5.alloc _ = w6 at b6 k6 ⊢
  have hl5 := lt_of_block k5
  have hl6 := lt_of_block k6
  have m5 := m1.same fun b hb => (b5.trans (b6.mono b5.size)).block b hb
  have m6 := m5.mono (fun b hb => (⟨by omega, by omega⟩ : b ≠ w5.heap.size ∧ b < w6.heap.size))
  have hB5 := hB4.trans (b5.mono hB4.size)
  have HI : Hid (TSt 30 w w6 w4.heap.size w5.heap.size [.int .i64 x.kind, .bool x.bool, .int .i64 x.num, .string x.text, .slice a1 l1 c1, .slice a2 l2 c2] x) := Lib.hid ⟨hB5.trans (b6.mono hB5.size), ⟨hB5.size, by omega⟩, (b6.block _ hl5).trans k5, m6, _, k6, m6⟩
  have hl5g := hl5
  generalize w4.heap.size = g5 at HI f5 ⊢
  generalize w5.heap.size = g6 at HI ⊢
  have HK := Lib.hid K
  clear K hv hx hg4 hd4 m1 hs4 hB4 b5 k5 f5 b6 k6 hl5 hl6 m5 m6 hB5 hl5g hb2 hd2 hg2 RO LI
  go_upto_region 6 with fail
  go_loopw [21] (fun i wr => ∃ j : Nat, j ≤ 3 ∧ i = .int .i64 (j : Int) ∧ TSt 30 w wr g5 g6 [.int .i64 x.kind, .bool x.bool, .int .i64 x.num, .string x.text, .slice a1 l1 c1, .slice a2 l2 c2] x) (fun i _ => 3 - (intOf i).toNat)
  case atStart => exact ⟨0, by omega, rfl, HI.out⟩
  case round =>
   obtain ⟨j, hj, rfl, hS⟩ := hrel
   obtain ⟨cs6, hb6, hn6⟩ := hS.h6
   obtain ⟨p1, q1, r1, p2, q2, r2, rfl⟩ := hn6.slices
   have HS := Lib.hid hS
   have f6 := six_of hb6
   have hn6' := hn6.mono fun b hb => hb.2
   rcases (by omega : j = 3 ∨ j = 0 ∨ j = 1 ∨ j = 2) with rfl | hj3
   ·have f5 := six_of hS.b5
    have SM := Lib.hid (rsame_any 9 9 _ _ _ _ x x wr hn6' (hS.n5.mono fun b hb => hb.2) (fun b hb => hb) (fun b hb => hb))
    clear hS hb6 hn6 hn6' HI HK HT
    go_wp2_with (first
     | (go_at_call 6; (with_reducible refine (AW.out _ (HS.out.low.trans (hb7.mono HS.out.low.size))).mono ?_); rintro e w8 ⟨rfl, hb8⟩)
     | (go_at_call 15; (with_reducible refine (SM.out).mono ?_); rintro e w7 ⟨bz, rfl, hbz, hb7⟩; obtain rfl : bz = true := hbz.2 (by first | exact rfl | trivial)))
    go_ret
    have hz := HS.out.low.trans (hb7.mono HS.out.low.size)
    exact ⟨rfl, hz.trans (hb8.mono hz.size)⟩
   ·rcases hj3 with rfl | rfl | rfl
    all_goals go_upto_region 9 with fail
    all_goals first
     | (obtain ⟨k, hk⟩ : ∃ k : Int, k = 1 + (2 * (1 + o % 2) + o / 2) % 3 := ⟨_, rfl⟩; rw [← hk])
     | (obtain ⟨k, hk⟩ : ∃ k : Int, k = 1 + (1 + o % 2 + o / 2) % 3 := ⟨_, rfl⟩; rw [← hk])
     | (obtain ⟨k, hk⟩ : ∃ k : Int, k = 1 + o / 2 % 3 := ⟨_, rfl⟩; rw [← hk])
    all_goals (
     have hk13 : 1 ≤ k ∧ k ≤ 3 := by omega
     clear hk
     have EN := encas_any k _ x wr hn6' (fun b hb => hb) (clowV HK.out.valid _) (fun _ => HK.out.nums) (HT.out.below HS.out.low)
     rw [HK.out.err hk13.1 hk13.2] at EN
     unfold EncW at EN
     have EN := Lib.hid EN
     have KD : Hid (∀ n er, FoIs k (foS k x) n er → er = 0 ∧ x = n) := Lib.hid fun n er h => HK.out.dec h hk13.1 hk13.2
     generalize foS k x = s at EN KD
     have hg6 := lt_of_block hb6
     clear hn6 hn6' hb6 hS hk13 HI HK AW
     go_upto_region 10 with (go_at_call 9; (with_reducible refine (EN.out).mono ?_); rintro e w8 ⟨rfl, hb8⟩)
     have DE := Lib.hid (decas_any k s w8 (HT.out.below (HS.out.low.trans (hb8.mono HS.out.low.size))))
     unfold DecW at DE
     go_upto_region 11 with (go_at_call 13; (with_reducible refine (DE.out).mono ?_); rintro e w9 ⟨ms, m, er, rfl, hm, hb9, hd9⟩; go_loud ((obtain ⟨rfl, rfl⟩ := KD.out m er hd9); (obtain ⟨p3, q3, r3, p4, q4, r4, hcs⟩ := hm.slices); subst hcs))
     have b10 := (Below.refl w9.heap.size w9).alloc (o := .cells #[.int .i64 x.kind, .bool x.bool, .int .i64 x.num, .string x.text, .slice p3 q3 r3, .slice p4 q4 r4] 30) (Nat.le_refl _)
     have k10 := heap_alloc_new w9 (.cells #[.int .i64 x.kind, .bool x.bool, .int .i64 x.num, .string x.text, .slice p3 q3 r3, .slice p4 q4 r4] 30)
     generalize w9.alloc _ = w10 at b10 k10 ⊢
     have hs8 := hb8.size
     have hs10 := b10.size
     have hm10 : NodeIn 9 (fun b => b ≠ g6 ∧ b < w10.heap.size) w10 _ x := (hm.same fun b hb => b10.block b hb.2).mono fun b hb => ⟨by omega, by omega⟩
     have hc9 := hb8.trans (hb9.mono hb8.size)
     have HS10 := HS.out.to (hc9.trans (b10.mono hc9.size))
     obtain ⟨cs7, hb7, hn7⟩ := HS10.h6
     obtain ⟨p5, q5, r5, p6, q6, r6, rfl⟩ := hn7.slices
     have f7 := six_of hb7
     have fr7 := free_six hb7
     have f10 := six_of k10
     generalize w9.heap.size = g10 at f10 ⊢
     have HR := Lib.hid (HS10.put hm10)
     clear hm hb8 hb9 hd9 b10 k10 hs8 hs10 hm10 hc9 HS10 hb7 hn7 f6 HS EN DE KD HT hg6
     go_wp2
     go_roundw
     case rel => first | exact ⟨1, by omega, by go_num, HR.out⟩ | exact ⟨2, by omega, by go_num, HR.out⟩ | exact ⟨3, by omega, by go_num, HR.out⟩
     case measure => simp [intOf])
 ·rw [decide_eq_false h500] at LI
  clear h500
  go_enter Tryz.func4, Tryz.ntmps4
  go_wp2_with (first
   | (go_at_call 5; (with_reducible refine (LI.out _).mono ?_); rintro e w3 ⟨rfl, rfl⟩)
   | (go_at_call 6; (with_reducible refine (AW.out _ (Below.refl _ _)).mono ?_); rintro e w1 ⟨rfl, hb⟩))
  go_ret
  exact ⟨rfl, hb⟩
end Go.Proofs.YtdppdonaojdceaaGreatDoor
