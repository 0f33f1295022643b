/- Valid: the recursion over the items, which goes by a closure. -/
import Derived.Test.YtmlmdidaldcoiaaGreatDoorJmap
import Derived.BigQuiet
import Derived.Deep.QuietTactic
import Derived.Deep.AppendLies
import Derived.WalkSpells
namespace Go.Proofs.YtmlmdidaldcoiaaGreatDoor
open Go Go.ChangeShapes Go.WideShapes Go.ChangeAt Go.RowKit
set_option linter.unusedVariables false
set_option linter.unusedSimpArgs false

/-- Nodes whose lists of items are all of a reach that can be looked at. -/
def lowV : Nat → ND → Prop
 | 0, _ => True
 | d + 1, x => x.items.length ≤ 1000000 ∧ ∀ y, y ∈ x.items → lowV d y
theorem lowV_of_lowN : ∀ {d : Nat} {x : ND}, lowN d x → lowV d x
 | 0, _, _ => trivial
 | d + 1, x, h => ⟨h.2.1, fun y hy => lowV_of_lowN (h.2.2 y hy)⟩
/-- What is asked of validWithin at depth d. -/
def ValidAt (d : Nat) : Prop := ∀ (D : Nat) (S : Nat → Prop) (cs : List Value) (x : ND) (w : World), NodeIn D S w cs x → (∀ b, S b → b < w.heap.size) → lowV D x → Utab w → Calls Tryz.prog 40 #[.agg cs.toArray, .int .i64 (d : Int)] w fun e w' => e = .returned (.bool (validN d x)) ∧ Below w.heap.size w w'
set_option maxHeartbeats 800000 in
set_option maxRecDepth 100000 in
theorem wrong_any {d : Nat} (HV : ValidAt d) (hd : d < 100) (p : Nat) {D : Nat} {S : Nat → Prop} (cs : List Value) (y : ND) (w : World) (h : NodeIn D S w cs y) (hS : ∀ b, S b → b < w.heap.size) (hl : lowV D y) (hT : Utab w) (hp : p < w.heap.size) (hc : w.cell? ⟨p, 0, none⟩ = some (.int .i64 ((d : Int) + 1))) :
  Calls Tryz.prog 64 #[.agg cs.toArray, .pointer (some ⟨p, 0, none⟩)] w fun e w' => e = .returned (.bool (!validN d y)) ∧ Below w.heap.size w w' := by
 obtain ⟨a1, l1, c1, a2, l2, c2, rfl⟩ := h.slices
 have b1 := (Below.refl w.heap.size w).alloc (o := .cells #[.int .i64 y.kind, .bool y.bool, .int .i64 y.num, .string y.text, .slice a1 l1 c1, .slice a2 l2 c2] 30) (Nat.le_refl _)
 have V := Lib.hid (HV D S _ y (w.alloc (.cells #[.int .i64 y.kind, .bool y.bool, .int .i64 y.num, .string y.text, .slice a1 l1 c1, .slice a2 l2 c2] 30)) (h.same fun b hb => b1.block b (hS b hb)) (fun b hb => Nat.lt_of_lt_of_le (hS b hb) b1.size) hl (hT.below b1))
 have hc1 := (b1.cell (p := ⟨p, 0, none⟩) hp).trans hc
 have hpn : ¬ p = w.heap.size := by omega
 have HB := Lib.hid b1
 have hd1 : ((d : Int) + 1 - 1) = (d : Int) := by omega
 have hdw : IntKind.i64.wrap (d : Int) = (d : Int) := IntWalk.i64_in _ (by omega)
 generalize validN d y = vb at V ⊢
 clear h hS hl hT b1 HV
 go_enter Tryz.func64, Tryz.ntmps64
 go_wp2_with (go_at_call 40; (with_reducible refine (V.out).mono ?_); rintro e w2 ⟨rfl, hb2⟩)
 go_ret
 exact ⟨rfl, HB.out.trans (hb2.mono HB.out.size)⟩
/-- Where the first one stands of which a bool is said; -1 if there is none. -/
def IdxPost (bad : Bool) (w : World) (e : Ending) (w' : World) : Prop := ∃ z : Int, e = .returned (.int .i64 z) ∧ decide (0 ≤ z) = bad ∧ Below w.heap.size w w'
set_option maxHeartbeats 1600000 in
set_option maxRecDepth 100000 in
theorem index_any {d : Nat} (HV : ValidAt d) (hd : d < 100) (p : Nat) {D : Nat} {S : Nat → Prop} (v : Value) (its : List ND) (w : World) (h : NodesIn (NodeIn D S w) S w v its) (hS : ∀ b, S b → b < w.heap.size) (hl : ∀ y, y ∈ its → lowV D y) (hT : Utab w) (hp : p < w.heap.size) (hc : w.cell? ⟨p, 0, none⟩ = some (.int .i64 ((d : Int) + 1))) :
  Calls Tryz.prog 98 #[v, .func (.func 64) #[] #[.pointer (some ⟨p, 0, none⟩)]] w (IdxPost (!its.all (validN d)) w) := by
 obtain ⟨ao, cap, rfl, hc1, hc2, hc3⟩ := h
 have H : Hid (NodesIn (NodeIn D S w) S w (.slice ao its.length cap) its) := Lib.hid ⟨ao, cap, rfl, hc1, hc2, hc3⟩
 unfold maxLen at hc2
 have HL := Lib.hid hl
 have HS := Lib.hid hS
 have HT := Lib.hid hT
 have HC := Lib.hid hc
 have HP := Lib.hid hp
 have HVV := Lib.hid HV
 clear hl hS hT hc hp hc3 HV
 go_enter Tryz.func98, Tryz.ntmps98
 go_wp2
 go_loopw [5, 8] (fun i5 i wr => ∃ j : Nat, i = .int .i64 j ∧ j ≤ its.length ∧ (∀ y, y ∈ its.take j → validN d y = true) ∧ Below w.heap.size w wr) (fun _ i _ => its.length - (intOf i).toNat)
 case atStart => exact ⟨0, rfl, Nat.zero_le _, (fun y hy => by simp at hy), Below.refl _ _⟩
 case round =>
  obtain ⟨j, rfl, hj, hok, hB⟩ := hrel
  by_cases hlt : j < its.length
  ·have hlt' : (j : Int) < (its.length : Int) := by omega
   have hj0 : (0 : Int) ≤ (j : Int) := by omega
   obtain ⟨-, -, -, b, off, x, a1, l1, c1, a2, l2, c2, rfl, hSb, hx, hnd, k0, k1, k2, k3, k4, k5⟩ := H.out.at hlt
   have hbw := HS.out b hSb
   have q0 := (hB.cell (p := ⟨b, off + j * 6, none⟩) hbw).trans k0
   have q1 := (hB.cell (p := ⟨b, off + j * 6 + 1, none⟩) hbw).trans k1
   have q2 := (hB.cell (p := ⟨b, off + j * 6 + 2, none⟩) hbw).trans k2
   have q3 := (hB.cell (p := ⟨b, off + j * 6 + 3, none⟩) hbw).trans k3
   have q4 := (hB.cell (p := ⟨b, off + j * 6 + 4, none⟩) hbw).trans k4
   have q5 := (hB.cell (p := ⟨b, off + j * 6 + 5, none⟩) hbw).trans k5
   clear k0 k1 k2 k3 k4 k5
   have W := Lib.hid (wrong_any HVV.out hd p _ x wr (hnd.same fun b hb => hB.block b (HS.out b hb)) (fun b hb => Nat.lt_of_lt_of_le (HS.out b hb) hB.size) (HL.out x (List.mem_of_getElem? hx)) (HT.out.below hB) (Nat.lt_of_lt_of_le HP.out hB.size) ((hB.cell (p := ⟨p, 0, none⟩) HP.out).trans HC.out))
   have HX := Lib.hid hx
   have HOK := Lib.hid hok
   clear hx hok hnd
   cases hv : validN d x with
   | true =>
    rw [hv] at W
    have HV1 := Lib.hid hv
    clear hv
    go_wp2_with (go_at_call 64; (with_reducible refine (W.out).mono ?_); rintro e w1 ⟨rfl, hb1⟩; (have hB1 := hB.trans (hb1.mono hB.size)); clear hb1 hB)
    go_roundw
    case rel =>
     refine ⟨j + 1, by go_num, by omega, fun y hy => ?_, hB1⟩
     rw [take_snocN HX.out] at hy
     rcases List.mem_append.1 hy with hy | hy
     ·exact HOK.out y hy
     ·cases List.mem_singleton.1 hy; exact HV1.out
    case measure => simp [intOf]; omega
   | false =>
    rw [hv] at W
    have HV1 := Lib.hid hv
    clear hv
    go_wp2_with (go_at_call 64; (with_reducible refine (W.out).mono ?_); rintro e w1 ⟨rfl, hb1⟩; (have hB1 := hB.trans (hb1.mono hB.size)); clear hb1 hB)
    go_ret
    have hall : its.all (validN d) = false := by
     cases hq : its.all (validN d) with
     | false => rfl
     | true =>
      have := List.all_eq_true.1 hq x (List.mem_of_getElem? HX.out)
      rw [HV1.out] at this
      cases this
    exact ⟨(j : Int), rfl, by rw [hall, decide_eq_true (by omega)]; rfl, hB1⟩
  ·have hlt' : ¬ (j : Int) < (its.length : Int) := by omega
   have hall : its.all (validN d) = true := by
    rw [List.take_of_length_le (by omega)] at hok
    exact List.all_eq_true.2 hok
   have HA := Lib.hid hall
   clear hok hall
   go_wp2
   go_ret
   exact ⟨-1, rfl, by rw [HA.out]; rfl, hB⟩
set_option maxRecDepth 100000 in
theorem contains_any {d : Nat} (HV : ValidAt d) (hd : d < 100) (p : Nat) {D : Nat} {S : Nat → Prop} (v : Value) (its : List ND) (w : World) (h : NodesIn (NodeIn D S w) S w v its) (hS : ∀ b, S b → b < w.heap.size) (hl : ∀ y, y ∈ its → lowV D y) (hT : Utab w) (hp : p < w.heap.size) (hc : w.cell? ⟨p, 0, none⟩ = some (.int .i64 ((d : Int) + 1))) :
  Calls Tryz.prog 65 #[v, .func (.func 64) #[] #[.pointer (some ⟨p, 0, none⟩)]] w fun e w' => e = .returned (.bool (!its.all (validN d))) ∧ Below w.heap.size w w' := by
 have I := Lib.hid (index_any HV hd p v its w h hS hl hT hp hc)
 generalize (!its.all (validN d)) = bad at I ⊢
 clear h hS hl hT hp hc HV
 go_enter Tryz.func65, Tryz.ntmps65
 go_wp2_with (go_at_call 98; (with_reducible refine (I.out).mono ?_); rintro e w2 ⟨z, rfl, hz, hb2⟩)
 go_ret
 exact ⟨by first | rfl | (rw [← hz]), hb2⟩
theorem flat_eq (x : ND) : flatOk x = (onlyB x.kind x.bool x.num x.text x.names.length x.items.length && (textOk x.text && (decide (x.items.length ≤ 256) && (!decide (x.kind = 5) || namesB x.names x.items.length)))) := by
 unfold flatOk onlyB namesB
 by_cases hk : x.kind = 5
 ·simp [hk, Bool.and_assoc]
 ·by_cases hn : x.names.length = 0
  ·have : x.names = [] := List.length_eq_zero_iff.1 hn
   simp [hk, this, Bool.and_assoc]
  ·have : x.names ≠ [] := fun h => hn (by rw [h]; rfl)
   simp [hk, this]
set_option maxHeartbeats 3200000 in
set_option maxRecDepth 100000 in
theorem within_step {d : Nat} (HV : ValidAt d) (hd : d < 100) : ValidAt (d + 1) := by
 intro D S cs x w h hS hl hT
 obtain ⟨a1, l1, c1, a2, l2, c2, rfl⟩ := h.slices
 cases D with
 | zero => exact h.elim
 | succ D =>
 obtain ⟨vn, vi, e, ht, hns, his⟩ := h
 simp only [List.cons.injEq, and_true, true_and] at e
 obtain ⟨rfl, rfl⟩ := e
 obtain ⟨ai, ci, ei, hi1, hi2, hi3⟩ := id his
 have hl2 : l2 = x.items.length := by cases ei; rfl
 clear hi3 ei
 obtain ⟨w1, hw1⟩ : ∃ W, W = (w.alloc (.cells #[.int .i64 x.kind, .bool x.bool, .int .i64 x.num, .string x.text, .slice a1 l1 c1, .slice a2 l2 c2] 30)).alloc (.cells #[.int .i64 ((d : Int) + 1)] 3) := ⟨_, rfl⟩
 have hz : (w.alloc (.cells #[.int .i64 x.kind, .bool x.bool, .int .i64 x.num, .string x.text, .slice a1 l1 c1, .slice a2 l2 c2] 30)).heap.size = w.heap.size + 1 := by simp
 have b1 : Below w.heap.size w w1 := by rw [hw1]; exact ((Below.refl _ _).alloc (Nat.le_refl _) _).alloc (by simp) _
 have hk1 : w1.heap[w.heap.size]? = some (.cells #[.int .i64 x.kind, .bool x.bool, .int .i64 x.num, .string x.text, .slice a1 l1 c1, .slice a2 l2 c2] 30 (0, 0)) := by rw [hw1]; exact (Below.heap_alloc _ _ _ (by omega)).trans (heap_alloc_new _ _)
 have hp1 : w1.heap[w.heap.size + 1]? = some (.cells #[.int .i64 ((d : Int) + 1)] 3 (0, 0)) := by rw [hw1, ← hz]; exact heap_alloc_new _ _
 have cp : w1.cell? ⟨w.heap.size + 1, 0, none⟩ = some (.int .i64 ((d : Int) + 1)) := by simp [World.cell?, hp1]
 have hps : w.heap.size + 1 < w1.heap.size := lt_of_block hp1
 have ck := six_of hk1
 -- the contracts at whatever world stands behind
 have FO := Lib.hid (fun wx => only_any x.kind x.bool x.num x.text a1 a2 l1 c1 l2 c2 wx)
 have FT := Lib.hid (fun (wx : World) (hb : Below w1.heap.size w1 wx) => vtext_any x.text wx ht ((hT.below b1).below hb))
 have FN := Lib.hid (fun (wx : World) (hb : Below w1.heap.size w1 wx) => vnames_any x.kind x.bool x.num x.text a1 a2 l1 c1 l2 c2 x.names wx (hns.same (w' := wx) fun b hb' => (hb.block b (Nat.lt_of_lt_of_le (hS b hb') b1.size)).trans (b1.block b (hS b hb'))) (fun b hb' => Nat.lt_of_lt_of_le (Nat.lt_of_lt_of_le (hS b hb') b1.size) hb.size) (by rw [hl2]; exact hl.1) ((hT.below b1).below hb))
 have FC := Lib.hid (fun (wx : World) (hb : Below w1.heap.size w1 wx) => contains_any HV hd (w.heap.size + 1) (.slice a2 l2 c2) x.items wx (his.same (w' := wx) (R' := NodeIn D S wx) (fun b hb' => (hb.block b (Nat.lt_of_lt_of_le (hS b hb') b1.size)).trans (b1.block b (hS b hb'))) fun cs y q => q.same fun b hb' => (hb.block b (Nat.lt_of_lt_of_le (hS b hb') b1.size)).trans (b1.block b (hS b hb'))) (fun b hb' => Nat.lt_of_lt_of_le (Nat.lt_of_lt_of_le (hS b hb') b1.size) hb.size) hl.2 ((hT.below b1).below hb) (Nat.lt_of_lt_of_le hps hb.size) ((hb.cell (p := ⟨w.heap.size + 1, 0, none⟩) hps).trans cp))
 have FK := Lib.hid (fun (wx : World) (hb : Below w1.heap.size w1 wx) => six_of ((hb.block _ (by omega : w.heap.size < w1.heap.size)).trans hk1))
 have hval : validN (d + 1) x = (onlyB x.kind x.bool x.num x.text x.names.length x.items.length && (textOk x.text && (decide (x.items.length ≤ 256) && (!decide (x.kind = 5) || namesB x.names x.items.length))) && x.items.all (validN d)) := by rw [validN_succ, flat_eq]
 have hl1 : l1 = x.names.length := by obtain ⟨_, _, e, _⟩ := hns; cases e; rfl
 have B1 := Lib.hid b1
 have hcd : (((d + 1 : Nat) : Int)) = (d : Int) + 1 := by omega
 have hmf : ∀ (fn : Fn) (first cap : Array Value) (w : World), (Instr.makeFunc fn first cap).run Tryz.prog w = .ok (.func fn first cap) w := fun _ _ _ _ => rfl
 rw [hcd, hval]
 rw [← hl1, ← hl2]
 have hl2b : l2 ≤ 1000000 := by have := hl.1; omega
 clear hval ht hns his hS hl hT HV hz hk1 hp1 hcd hl1 hl2 hi1
 generalize hA : onlyB x.kind x.bool x.num x.text l1 l2 = bA at FO ⊢
 generalize hT' : textOk x.text = bT at FT ⊢
 generalize hN : namesB x.names l2 = bN at FN ⊢
 generalize hC : x.items.all (validN d) = bC at FC ⊢
 clear hA hT' hN hC
 have hdn : ¬ (d : Int) + 1 < 1 := by omega
 cases bA with
 | false =>
  go_enter Tryz.func40, Tryz.ntmps40
  go_upto_region 1 with fail
  rw [← hw1]
  clear hw1
  go_wp2_with ((go_at_call 61; (with_reducible refine (FO.out _).mono ?_); rintro e w2 ⟨rfl, hb2⟩; (have fk2 := FK.out w2 hb2); clear ck))
  go_ret
  exact ⟨rfl, B1.out.trans (hb2.mono B1.out.size)⟩
 | true =>
 cases bT with
 | false =>
  go_enter Tryz.func40, Tryz.ntmps40
  go_upto_region 1 with fail
  rw [← hw1]
  clear hw1
  go_wp2_with (first
   | (go_at_call 61; (with_reducible refine (FO.out _).mono ?_); rintro e w2 ⟨rfl, hb2⟩; (have fk2 := FK.out w2 hb2); clear ck)
   | (go_at_call 62; (with_reducible refine (FT.out _ hb2).mono ?_); rintro e w3 ⟨rfl, hb3'⟩; (have hb3 := hb2.trans (hb3'.mono hb2.size)); (have fk3 := FK.out w3 hb3); clear fk2))
  go_ret
  exact ⟨rfl, B1.out.trans (hb3.mono B1.out.size)⟩
 | true =>
 by_cases h256 : l2 ≤ 256
 ·have h256' : ¬ (256 : Int) < (l2 : Int) := by omega
  rw [decide_eq_true h256]
  by_cases hk5 : x.kind = 5
  ·rw [decide_eq_true hk5]
   have hkb : (x.kind == 5) = true := by simp [hk5]
   have HK5 := Lib.hid hk5
   clear hk5 h256
   cases bN with
   | false =>
    go_enter Tryz.func40, Tryz.ntmps40
    go_upto_region 1 with fail
    rw [← hw1]
    clear hw1
    go_wp2_with (first
   | (go_at_call 61; (with_reducible refine (FO.out _).mono ?_); rintro e w2 ⟨rfl, hb2⟩; (have fk2 := FK.out w2 hb2); clear ck)
   | (go_at_call 62; (with_reducible refine (FT.out _ hb2).mono ?_); rintro e w3 ⟨rfl, hb3'⟩; (have hb3 := hb2.trans (hb3'.mono hb2.size)); (have fk3 := FK.out w3 hb3); clear fk2)
   | (go_at_call 63; (with_reducible refine (FN.out _ hb3).mono ?_); rintro e w4 ⟨rfl, hb4'⟩; (have hb4 := hb3.trans (hb4'.mono hb3.size)); (have fk4 := FK.out w4 hb4); clear fk3))
    go_ret
    exact ⟨rfl, B1.out.trans (hb4.mono B1.out.size)⟩
   | true =>
    go_enter Tryz.func40, Tryz.ntmps40
    go_upto_region 1 with fail
    rw [← hw1]
    clear hw1
    go_wp2_with (first
   | (go_at_call 61; (with_reducible refine (FO.out _).mono ?_); rintro e w2 ⟨rfl, hb2⟩; (have fk2 := FK.out w2 hb2); clear ck)
   | (go_at_call 62; (with_reducible refine (FT.out _ hb2).mono ?_); rintro e w3 ⟨rfl, hb3'⟩; (have hb3 := hb2.trans (hb3'.mono hb2.size)); (have fk3 := FK.out w3 hb3); clear fk2)
   | (go_at_call 63; (with_reducible refine (FN.out _ hb3).mono ?_); rintro e w4 ⟨rfl, hb4'⟩; (have hb4 := hb3.trans (hb4'.mono hb3.size)); (have fk4 := FK.out w4 hb4); clear fk3)
   | (go_at_call 65; (with_reducible refine (FC.out _ hb4).mono ?_); rintro e w5 ⟨rfl, hb5'⟩; (have hb5 := hb4.trans (hb5'.mono hb4.size))))
    go_ret
    exact ⟨by simp, B1.out.trans (hb5.mono B1.out.size)⟩
  ·rw [decide_eq_false hk5]
   have hkb : (x.kind == 5) = false := by simp [hk5]
   have HK5 := Lib.hid hk5
   clear hk5 h256
   go_enter Tryz.func40, Tryz.ntmps40
   go_upto_region 1 with fail
   rw [← hw1]
   clear hw1
   go_wp2_with (first
   | (go_at_call 61; (with_reducible refine (FO.out _).mono ?_); rintro e w2 ⟨rfl, hb2⟩; (have fk2 := FK.out w2 hb2); clear ck)
   | (go_at_call 62; (with_reducible refine (FT.out _ hb2).mono ?_); rintro e w3 ⟨rfl, hb3'⟩; (have hb3 := hb2.trans (hb3'.mono hb2.size)); (have fk3 := FK.out w3 hb3); clear fk2)
   | (go_at_call 65; (with_reducible refine (FC.out _ hb3).mono ?_); rintro e w5 ⟨rfl, hb5'⟩; (have hb5 := hb3.trans (hb5'.mono hb3.size))))
   go_ret
   exact ⟨by simp, B1.out.trans (hb5.mono B1.out.size)⟩
 ·have h256' : (256 : Int) < (l2 : Int) := by omega
  rw [decide_eq_false h256]
  clear h256
  go_enter Tryz.func40, Tryz.ntmps40
  go_upto_region 1 with fail
  rw [← hw1]
  clear hw1
  go_wp2_with (first
   | (go_at_call 61; (with_reducible refine (FO.out _).mono ?_); rintro e w2 ⟨rfl, hb2⟩; (have fk2 := FK.out w2 hb2); clear ck)
   | (go_at_call 62; (with_reducible refine (FT.out _ hb2).mono ?_); rintro e w3 ⟨rfl, hb3'⟩; (have hb3 := hb2.trans (hb3'.mono hb2.size)); (have fk3 := FK.out w3 hb3); clear fk2))
  go_ret
  exact ⟨rfl, B1.out.trans (hb3.mono B1.out.size)⟩
set_option maxHeartbeats 800000 in
set_option maxRecDepth 100000 in
theorem within_zero : ValidAt 0 := by
 intro D S cs x w h hS hl hT
 obtain ⟨a1, l1, c1, a2, l2, c2, rfl⟩ := h.slices
 clear h hS hl hT
 go_enter Tryz.func40, Tryz.ntmps40
 go_wp2
 go_ret
 exact ⟨rfl, ((Below.refl _ _).alloc (Nat.le_refl _) _).alloc (by simp) _⟩
theorem within_any : ∀ d, d < 100 → ValidAt d
 | 0, _ => within_zero
 | d + 1, h => within_step (within_any d (by omega)) (by omega)
set_option maxRecDepth 100000 in
theorem isvalidV_any {D : Nat} {S : Nat → Prop} (cs : List Value) (x : ND) (w : World) (h : NodeIn D S w cs x) (hS : ∀ b, S b → b < w.heap.size) (hl : lowV D x) (hT : Utab w) : Calls Tryz.prog 22 #[.agg cs.toArray] w fun e w' => e = .returned (.bool (validN 8 x)) ∧ Below w.heap.size w w' := by
 obtain ⟨a1, l1, c1, a2, l2, c2, rfl⟩ := h.slices
 have b1 := (Below.refl w.heap.size w).alloc (o := .cells #[.int .i64 x.kind, .bool x.bool, .int .i64 x.num, .string x.text, .slice a1 l1 c1, .slice a2 l2 c2] 30) (Nat.le_refl _)
 have V := Lib.hid (within_any 8 (by decide) D S _ x (w.alloc (.cells #[.int .i64 x.kind, .bool x.bool, .int .i64 x.num, .string x.text, .slice a1 l1 c1, .slice a2 l2 c2] 30)) (h.same fun b hb => b1.block b (hS b hb)) (fun b hb => Nat.lt_of_lt_of_le (hS b hb) b1.size) hl (hT.below b1))
 rw [show ((8 : Nat) : Int) = 8 from rfl] at V
 have HB := Lib.hid b1
 generalize validN 8 x = vb at V ⊢
 clear h hS hl hT b1
 go_enter Tryz.func22, Tryz.ntmps22
 go_wp2_with (go_at_call 40; (with_reducible refine (V.out).mono ?_); rintro e w2 ⟨rfl, hb2⟩)
 go_ret
 exact ⟨rfl, HB.out.trans (hb2.mono HB.out.size)⟩
theorem isvalid_any {D : Nat} {S : Nat → Prop} (cs : List Value) (x : ND) (w : World) (h : NodeIn D S w cs x) (hS : ∀ b, S b → b < w.heap.size) (hl : lowN D x) (hT : Utab w) : Calls Tryz.prog 22 #[.agg cs.toArray] w fun e w' => e = .returned (.bool (validN 8 x)) ∧ Below w.heap.size w w' := isvalidV_any cs x w h hS (lowV_of_lowN hl) hT
end Go.Proofs.YtmlmdidaldcoiaaGreatDoor
/- Same: the program's own. -/
namespace Go.Proofs.YtmlmdidaldcoiaaGreatDoor
open Go Go.ChangeShapes Go.WideShapes Go.ChangeAt Go.RowKit
set_option linter.unusedVariables false
set_option linter.unusedSimpArgs false

/-- Some bool that says whether p. -/
def BoolFor (p : Prop) (w : World) (e : Ending) (w' : World) : Prop := ∃ b : Bool, e = .returned (.bool b) ∧ (b = true ↔ p) ∧ Below w.heap.size w w'
theorem StrsIn.get {S : Nat → Prop} {w : World} {ao : Option Addr} {l cap : Nat} {ns : List ByteArray} (h : StrsIn S w (.slice ao l cap) ns) {j : Nat} {s : ByteArray} (hj : ns[j]? = some s) : ∃ b off, ao = some ⟨b, off, none⟩ ∧ S b ∧ w.cell? ⟨b, off + j, none⟩ = some (.string s) := by
 obtain ⟨ao', cap', e, h1, h2, h3⟩ := h
 cases e
 obtain ⟨b, off, e, hS, hc, _⟩ := h3 j s hj
 exact ⟨b, off, e, hS, hc⟩
theorem str_beq {a b : ByteArray} (h : a = b) : (a.toList == b.toList) = true := by rw [h]; exact beq_self_eq_true _
theorem str_bne {a b : ByteArray} (h : a ≠ b) : (a.toList == b.toList) = false := by
 rw [beq_eq_false_iff_ne]
 intro e
 rw [ByteArray.toList_eq, ByteArray.toList_eq] at e
 exact h (ByteArray.ext (Array.toList_inj.1 e))
end Go.Proofs.YtmlmdidaldcoiaaGreatDoor
/- Put, where the map that results is valid. -/
namespace Go.Proofs.YtmlmdidaldcoiaaGreatDoor
open Go Go.ChangeShapes Go.WideShapes Go.ChangeAt Go.RowKit
set_option linter.unusedVariables false
set_option linter.unusedSimpArgs false

/-- Six cells of a row of nodes are replaced. -/
theorem nCells_set : ∀ (A : List NC) (i : Nat) (a b c d e f : Value) (x : ND), (∀ y, y ∈ A → y.1.length = 6) → i < A.length → ((((((nCells A).set (i * 6) a).set (i * 6 + 1) b).set (i * 6 + 2) c).set (i * 6 + 3) d).set (i * 6 + 4) e).set (i * 6 + 5) f = nCells (A.set i ([a, b, c, d, e, f], x))
 | [], i, _, _, _, _, _, _, _, _, h => by simp at h
 | y :: t, 0, a, b, c, d, e, f, x, h6, h => by
  obtain ⟨a', b', c', d', e', f', hy⟩ : ∃ a b c d e f, y.1 = [a, b, c, d, e, f] := by
   have := h6 y (by simp)
   match hq : y.1, this with
   | [a, b, c, d, e, f], _ => exact ⟨_, _, _, _, _, _, rfl⟩
  simp [nCells, hy]
 | y :: t, i + 1, a, b, c, d, e, f, x, h6, h => by
  have ih := nCells_set t i a b c d e f x (fun z hz => h6 z (by simp [hz])) (by simpa using h)
  have hy := h6 y (by simp)
  have e1 : nCells (y :: t) = y.1 ++ nCells t := by simp [nCells]
  have e2 : nCells ((y :: t).set (i + 1) ([a, b, c, d, e, f], x)) = y.1 ++ nCells (t.set i ([a, b, c, d, e, f], x)) := by simp [nCells]
  rw [e1, e2, ← ih]
  rw [show (i + 1) * 6 = i * 6 + 6 by omega]
  rw [List.set_append_right _ _ (by omega), List.set_append_right _ _ (by omega), List.set_append_right _ _ (by omega), List.set_append_right _ _ (by omega), List.set_append_right _ _ (by omega), List.set_append_right _ _ (by omega), hy]
  congr 1
theorem nodesOf_set (A : List NC) (i : Nat) (cs : List Value) (x : ND) : nodesOf (A.set i (cs, x)) = (nodesOf A).set i x := by simp [nodesOf, List.map_set]
/-- Six stores into an own row. -/
theorem owns_six {w : World} {base : Nat} {e : TypeId} {g n cap : Nat} {xs : List Value} (h : w.ownsRow base e 6 (.slice (some ⟨g, 0, none⟩) n cap) n xs) (i : Nat) (a b c d e' f : Value) :
  ((((((w.setCell ⟨g, i * 6, none⟩ a).setCell ⟨g, i * 6 + 1, none⟩ b).setCell ⟨g, i * 6 + 2, none⟩ c).setCell ⟨g, i * 6 + 3, none⟩ d).setCell ⟨g, i * 6 + 4, none⟩ e').setCell ⟨g, i * 6 + 5, none⟩ f).ownsRow base e 6 (.slice (some ⟨g, 0, none⟩) n cap) n ((((((xs.set (i * 6) a).set (i * 6 + 1) b).set (i * 6 + 2) c).set (i * 6 + 3) d).set (i * 6 + 4) e').set (i * 6 + 5) f) :=
 ((((((h.stored (i * 6) a).1.stored (i * 6 + 1) b).1.stored (i * 6 + 2) c).1.stored (i * 6 + 3) d).1.stored (i * 6 + 4) e').1.stored (i * 6 + 5) f).1
theorem six_stores (w : World) (g o : Nat) (a b c d e f : Value) : w.grownBy ((((((w.setCell ⟨g, o, none⟩ a).setCell ⟨g, o + 1, none⟩ b).setCell ⟨g, o + 2, none⟩ c).setCell ⟨g, o + 3, none⟩ d).setCell ⟨g, o + 4, none⟩ e).setCell ⟨g, o + 5, none⟩ f) (some g) :=
 gtrans (gtrans (gtrans (gtrans (gtrans (grown_set w g o a) (grown_set _ g (o + 1) b)) (grown_set _ g (o + 2) c)) (grown_set _ g (o + 3) d)) (grown_set _ g (o + 4) e)) (grown_set _ g (o + 5) f)
section
variable {TN TS : TypeId} {d : Nat} {S : Nat → Prop} {w wx wn : World} {gb : Nat} {cv : List Value} {vn vi : Value} {ns : List ByteArray} {A : List NC}
end
end Go.Proofs.YtmlmdidaldcoiaaGreatDoor
/- Text, Number, List, Map, Get. -/
namespace Go.Proofs.YtmlmdidaldcoiaaGreatDoor
open Go Go.ChangeShapes Go.WideShapes Go.ChangeAt Go.RowKit
set_option linter.unusedVariables false
set_option linter.unusedSimpArgs false

set_option maxRecDepth 100000 in
theorem ntext_any (s : ByteArray) (w : World) : Calls Tryz.prog 42 #[.string s] w fun e w' => e = .returned (.agg #[.int .i64 3, .bool false, .int .i64 0, .string s, .slice none 0 0, .slice none 0 0]) ∧ Below w.heap.size w w' := by
 go_enter Tryz.func42, Tryz.ntmps42
 go_wp2
 refine bodyPost_ret (v := .agg #[.int .i64 3, .bool false, .int .i64 0, .string s, .slice none 0 0, .slice none 0 0]) ?_ ?_ ?_
 rotate_left
 ·rfl
 ·exact ⟨rfl, (Below.refl _ _).alloc (Nat.le_refl _) _⟩
 ·obtain ⟨q0, q1, q2, q3, q4, q5⟩ := six_of (heap_alloc_new w (.cells #[.int .i64 3, .bool false, .int .i64 0, .string s, .slice none 0 0, .slice none 0 0] 30))
  simp [results, Tryz.results42, go_sem, q0, q1, q2, q3, q4, q5]
set_option maxHeartbeats 1600000 in
set_option maxRecDepth 100000 in
theorem nmap_any (d : Nat) (S : Nat → Prop) (v v' : Value) (ns : List ByteArray) (its : List ND) (w : World) (h : NodesIn (NodeIn d S w) S w v' its) (hn : StrsIn S w v ns) (hS : ∀ b, S b → b < w.heap.size) (hl : its.length ≤ 1000000) (hln : ns.length ≤ 1000000) (hlow : ∀ y, y ∈ its → lowN d y) : Calls Tryz.prog 25 #[v, v'] w (NodeNew (d + 1) w (.mk 5 false 0 ⟨#[]⟩ ns its)) := by
 obtain ⟨ao, cap, rfl, h1, h2, h3⟩ := id h
 obtain ⟨an, capn, rfl, n1, n2, n3⟩ := id hn
 have b1 := (Below.refl w.heap.size w).alloc (o := .cells #[.int .i64 0, .bool false, .int .i64 0, .string ⟨#[]⟩, .slice none 0 0, .slice none 0 0] 30) (Nat.le_refl _)
 obtain ⟨w1, hw1⟩ : ∃ W, W = w.alloc (.cells #[.int .i64 0, .bool false, .int .i64 0, .string ⟨#[]⟩, .slice none 0 0, .slice none 0 0] 30) := ⟨_, rfl⟩
 have hr := heap_alloc_new w (.cells #[.int .i64 0, .bool false, .int .i64 0, .string ⟨#[]⟩, .slice none 0 0, .slice none 0 0] 30)
 have hz1 : w1.heap.size = w.heap.size + 1 := by rw [hw1]; simp
 rw [← hw1] at b1 hr
 have CT := Lib.hid (ctexts_any _ ns w1 (hn.same fun b hb => b1.block b (hS b hb)) hln)
 have CI := Lib.hid (fun (wx : World) (hb : Below w1.heap.size w1 wx) => citems_any d S _ its wx (h.same (fun b hb' => (hb.block b (Nat.lt_of_lt_of_le (hS b hb') b1.size)).trans (b1.block b (hS b hb'))) fun cs y q => q.same fun b hb' => (hb.block b (Nat.lt_of_lt_of_le (hS b hb') b1.size)).trans (b1.block b (hS b hb'))) (fun b hb' => Nat.lt_of_lt_of_le (Nat.lt_of_lt_of_le (hS b hb') b1.size) hb.size) hl hlow)
 have B1 := Lib.hid b1
 have HR := Lib.hid hr
 have HZ := Lib.hid hz1
 clear h hn hS hl hln hlow h3 n3 b1 hr hz1
 go_enter Tryz.func25, Tryz.ntmps25
 go_upto_region 1 with fail
 rw [← hw1]
 clear hw1
 go_wp2_with (first
  | (go_at_call 43; (with_reducible refine (CT.out).mono ?_); rintro e w2 ⟨v1, rfl, hv1, hv1o, hb2, hrow⟩; obtain ⟨a3, c3, rfl, hv1r⟩ := hv1)
  | (go_at_call 44; (with_reducible refine (CI.out _ hb2).mono ?_); rintro e w3 ⟨v2, rfl, hv2, hb3⟩; obtain ⟨a4, c4, rfl, hv2r⟩ := hv2; (have hk3 := (hb3.block _ (Nat.lt_of_lt_of_le (lt_of_block HR.out) hb2.size)).trans ((hb2.block _ (lt_of_block HR.out)).trans HR.out)); (have f3 := free_six hk3); (have c3' := six_of hk3); clear hk3))
 have hv2 : NodesIn (NodeIn d (Fr w2.heap.size w3) w3) (Fr w2.heap.size w3) w3 (.slice a4 its.length c4) its := ⟨a4, c4, rfl, hv2r⟩
 have hv1 : StrsIn (Fr w1.heap.size w2) w2 (.slice a3 ns.length c3) ns := ⟨a3, c3, rfl, hv1r⟩
 have hk3 := (hb3.block _ (Nat.lt_of_lt_of_le (lt_of_block HR.out) hb2.size)).trans ((hb2.block _ (lt_of_block HR.out)).trans HR.out)
 have hput := six_put hk3 (.int .i64 5) (.bool false) (.int .i64 0) (.string ⟨#[]⟩) (.slice a3 ns.length c3) (.slice a4 its.length c4)
 have hgf := grown_set6 w3 w.heap.size (.int .i64 5) (.bool false) (.int .i64 0) (.string ⟨#[]⟩) (.slice a3 ns.length c3) (.slice a4 its.length c4)
 have hz1 := HZ.out
 have hs2 := hb2.size
 refine bodyPost_ret (v := .agg #[.int .i64 5, .bool false, .int .i64 0, .string ⟨#[]⟩, .slice a3 ns.length c3, .slice a4 its.length c4]) ?_ ?_ ?_
 rotate_left
 ·rfl
 ·have e1 : ∀ b, Fr w1.heap.size w2 b → (set6 w3 w.heap.size (.int .i64 5) (.bool false) (.int .i64 0) (.string ⟨#[]⟩) (.slice a3 ns.length c3) (.slice a4 its.length c4)).heap[b]? = w2.heap[b]? := fun b hb => (hgf.block b (Nat.lt_of_lt_of_le hb.2.1 hb3.size) (by intro e; have := Option.some.inj e; have := hb.1; omega)).trans (hb3.block b hb.2.1)
  have e2 : ∀ b, Fr w2.heap.size w3 b → (set6 w3 w.heap.size (.int .i64 5) (.bool false) (.int .i64 0) (.string ⟨#[]⟩) (.slice a3 ns.length c3) (.slice a4 its.length c4)).heap[b]? = w3.heap[b]? := fun b hb => hgf.block b hb.2.1 (by intro e; have := Option.some.inj e; have := hb.1; omega)
  refine ⟨[.int .i64 5, .bool false, .int .i64 0, .string ⟨#[]⟩, .slice a3 ns.length c3, .slice a4 its.length c4], rfl, ⟨_, _, rfl, Nat.zero_le _, ?_, ?_⟩, ?_⟩
  ·exact (hv1.same e1).mono fun b hb => hb.move (e1 b hb) (by omega) (Nat.le_trans hb3.size hgf.size)
  ·exact (hv2.same e2 fun cs y q => q.same e2).mono (fun b hb => hb.move (e2 b hb) (by omega) hgf.size) fun cs y q => q.mono fun b hb => hb.move (e2 b hb) (by omega) hgf.size
  ·have hbb := B1.out.trans ((hb2.trans (hb3.mono hb2.size)).mono B1.out.size)
   exact ⟨hgf.os.trans hbb.os, hgf.tape.trans hbb.tape, hgf.output.trans hbb.output, Nat.le_trans hbb.size hgf.size, fun b hb => (hgf.block b (Nat.lt_of_lt_of_le hb hbb.size) (by intro e; have := Option.some.inj e; omega)).trans (hbb.block b hb)⟩
 ·obtain ⟨q0, q1, q2, q3, q4, q5⟩ := six_of hput
  simp only [set6] at q0 q1 q2 q3 q4 q5
  simp [results, Tryz.results25, go_sem, q0, q1, q2, q3, q4, q5]
end Go.Proofs.YtmlmdidaldcoiaaGreatDoor
