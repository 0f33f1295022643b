/- The kit's Map: some map that is valid. -/
import Derived.Test.YtdppdonaojdceaaGreatDoorMfb
import Derived.Test.YtdppdonaojdceaaGreatDoorNshape
import Derived.Test.YtdppdonaojdceaaGreatDoorNst
import Derived.Test.YtdppdonaojdceaaGreatDoorPlan
import Derived.Deep.AppendLies
import Derived.Maps.AppendAt
import Derived.BigFrame
namespace Go.Proofs.YtdppdonaojdceaaGreatDoor
open Go.ChangeShapes Go.WideShapes Go.ChangeAt Go.RowKit
set_option linter.unusedVariables false
set_option linter.unusedSimpArgs false

theorem infon : ∃ i, Tryz.prog.info? 30 = some i ∧ i.zero = some (.agg #[.int .i64 0, .bool false, .int .i64 0, .string ⟨#[]⟩, .slice none 0 0, .slice none 0 0]) ∧ i.size = 6 ∧ i.bytes = 88 :=
 info_parts (show (Tryz.prog.info? 30).map (fun i => (i.zero, i.size, i.bytes)) = some (some (.agg #[.int .i64 0, .bool false, .int .i64 0, .string ⟨#[]⟩, .slice none 0 0, .slice none 0 0]), 6, 88) by kernel_rfl)
theorem infos : ∃ i, Tryz.prog.info? 9 = some i ∧ i.zero = some (.string ⟨#[]⟩) ∧ i.size = 1 ∧ i.bytes = 16 :=
 info_parts (show (Tryz.prog.info? 9).map (fun i => (i.zero, i.size, i.bytes)) = some (some (.string ⟨#[]⟩), 1, 16) by kernel_rfl)
end Go.Proofs.YtdppdonaojdceaaGreatDoor
/- Copies of nodes: the program's own (copiedTexts, copiedItems, copied) and the document's (Copy). -/
namespace Go.Proofs.YtdppdonaojdceaaGreatDoor
open Go Go.ChangeShapes Go.WideShapes Go.ChangeAt Go.RowKit
set_option linter.unusedVariables false
set_option linter.unusedSimpArgs false

/-- Nodes whose lists are all of a reach that can be copied. -/
def lowN : Nat → ND → Prop
 | 0, _ => True
 | d + 1, x => x.names.length ≤ 1000000 ∧ x.items.length ≤ 1000000 ∧ ∀ y, y ∈ x.items → lowN d y
theorem lowN_of_valid : ∀ (d e : Nat) (x : ND), validN d x = true → lowN e x
 | _, 0, _, _ => trivial
 | 0, e + 1, _, h => by cases h
 | d + 1, e + 1, x, h => by
  rw [validN_succ, Bool.and_eq_true, List.all_eq_true] at h
  obtain ⟨hf, hv⟩ := h
  unfold flatOk at hf
  simp only [Bool.and_eq_true, Bool.or_eq_true, decide_eq_true_eq] at hf
  obtain ⟨⟨⟨⟨⟨⟨⟨⟨⟨⟨⟨-, -⟩, -⟩, -⟩, -⟩, -⟩, h1⟩, -⟩, h2⟩, h3⟩, -⟩, -⟩ := hf
  refine ⟨?_, by omega, fun y hy => lowN_of_valid d e y (hv y hy)⟩
  rcases h1 with h1 | h1
  ·omega
  ·rcases h3 with h3 | h3
   ·exact absurd h1 h3
   ·omega
theorem take_snocN {its : List ND} {j : Nat} {x : ND} (h : its[j]? = some x) : its.take (j + 1) = its.take j ++ [x] := by rw [List.take_add_one, h]; rfl
theorem lt_of_some {α : Type} {l : List α} {j : Nat} {x : α} (h : l[j]? = some x) : j < l.length := by
 rcases Nat.lt_or_ge j l.length with h' | h'
 ·exact h'
 ·rw [List.getElem?_eq_none h'] at h; cases h
theorem NodeIn.slices {d : Nat} {S : Nat → Prop} {w : World} {cs : List Value} {x : ND} (h : NodeIn d S w cs x) : ∃ a1 l1 c1 a2 l2 c2, cs = [.int .i64 x.kind, .bool x.bool, .int .i64 x.num, .string x.text, .slice a1 l1 c1, .slice a2 l2 c2] := by
 cases d with
 | zero => exact h.elim
 | succ d =>
  obtain ⟨va, vb, rfl, _, ⟨a1, c1, rfl, _⟩, ⟨a2, c2, rfl, _⟩⟩ := h
  exact ⟨_, _, _, _, _, _, rfl⟩
/-- The six cells of an element. -/
theorem NodesIn.at {d : Nat} {S : Nat → Prop} {w : World} {ao : Option Addr} {l cap : Nat} {its : List ND} (h : NodesIn (NodeIn d S w) S w (.slice ao l cap) its) {j : Nat} (hj : j < its.length) :
  l = its.length ∧ l ≤ cap ∧ cap ≤ maxLen ∧ ∃ b off x a1 l1 c1 a2 l2 c2, ao = some ⟨b, off, none⟩ ∧ S b ∧ its[j]? = some x ∧ NodeIn d S w [.int .i64 x.kind, .bool x.bool, .int .i64 x.num, .string x.text, .slice a1 l1 c1, .slice a2 l2 c2] x ∧
   w.cell? ⟨b, off + j * 6, none⟩ = some (.int .i64 x.kind) ∧ w.cell? ⟨b, off + j * 6 + 1, none⟩ = some (.bool x.bool) ∧ w.cell? ⟨b, off + j * 6 + 2, none⟩ = some (.int .i64 x.num) ∧ w.cell? ⟨b, off + j * 6 + 3, none⟩ = some (.string x.text) ∧ w.cell? ⟨b, off + j * 6 + 4, none⟩ = some (.slice a1 l1 c1) ∧ w.cell? ⟨b, off + j * 6 + 5, none⟩ = some (.slice a2 l2 c2) := by
 obtain ⟨ao', cap', e, h1, h2, h3⟩ := h
 cases e
 obtain ⟨b, off, cs, rfl, hS, hc, hr⟩ := h3 j _ (List.getElem?_eq_getElem hj)
 obtain ⟨a1, l1, c1, a2, l2, c2, rfl⟩ := hr.slices
 exact ⟨rfl, h1, h2, b, off, its[j], a1, l1, c1, a2, l2, c2, rfl, hS, List.getElem?_eq_getElem hj, hr, hc 0 _ rfl, hc 1 _ rfl, hc 2 _ rfl, hc 3 _ rfl, hc 4 _ rfl, hc 5 _ rfl⟩
end Go.Proofs.YtdppdonaojdceaaGreatDoor
/- EncodeAs and DecodeAs over whatever a serialisation's own functions give. -/
namespace Go.Proofs.YtdppdonaojdceaaGreatDoor
open Go Go.ChangeShapes Go.WideShapes Go.ChangeAt Go.RowKit
set_option linter.unusedVariables false
set_option linter.unusedSimpArgs false

/-- What an Encode gives. -/
def EncW (S : ByteArray) (E : Int) (w : World) (e : Ending) (w' : World) : Prop := e = .returned (.tuple #[.string S, .int .i64 E]) ∧ Below w.heap.size w w'
/-- What a Decode gives. -/
def DecW (P : ND → Int → Prop) (w : World) (e : Ending) (w' : World) : Prop := ∃ (cs : List Value) (x : ND) (er : Int), e = .returned (.tuple #[.agg cs.toArray, .int .i64 er]) ∧ NodeIn 9 (fun b => w.heap.size ≤ b ∧ b < w'.heap.size) w' cs x ∧ Below w.heap.size w w' ∧ P x er
set_option maxHeartbeats 3200000 in
set_option maxRecDepth 100000 in
theorem encas_at {D : Nat} {Sx : Nat → Prop} (k : Int) (F F2 F3 : Nat) (cs : List Value) (x : ND) (w : World) (S : ByteArray) (E : Int) (h : NodeIn D Sx w cs x) (hF : F = 39 ∨ F = 42 ∨ F = 18) (hk : foR k = [.int .i64 k, .func (.func F) #[] #[], .func (.func F2) #[] #[], .func (.func F3) #[] #[]] ∧ foB k = true)
  (EN : ∀ wx, Below w.heap.size w wx → Calls Tryz.prog F #[.agg cs.toArray] wx (EncW S E wx)) : Calls Tryz.prog 9 #[.int .i64 k, .agg cs.toArray] w (EncW S E w) := by
 obtain ⟨a1, l1, c1, a2, l2, c2, rfl⟩ := h.slices
 have FO := Lib.hid (fun wx : World => foof_any k wx)
 simp only [hk.1, hk.2] at FO
 have b1 := (Below.refl w.heap.size w).alloc (o := .cells #[.int .i64 x.kind, .bool x.bool, .int .i64 x.num, .string x.text, .slice a1 l1 c1, .slice a2 l2 c2] 30) (Nat.le_refl _)
 have k1 := heap_alloc_new w (.cells #[.int .i64 x.kind, .bool x.bool, .int .i64 x.num, .string x.text, .slice a1 l1 c1, .slice a2 l2 c2] 30)
 clear h hk
 go_enter Tryz.func9, Tryz.ntmps9
 go_upto_region 1 with fail
 generalize w.alloc _ = w1 at b1 k1 ⊢
 go_upto_region 2 with (go_at_call 20; (with_reducible refine (FO.out _).mono ?_); rintro e w2 ⟨rfl, hb2⟩)
 have b3 := (Below.refl w2.heap.size w2).alloc (o := .cells #[.int .i64 k, .func (.func F) #[] #[], .func (.func F2) #[] #[], .func (.func F3) #[] #[]] 49) (Nat.le_refl _)
 have k3 := heap_alloc_new w2 (.cells #[.int .i64 k, .func (.func F) #[] #[], .func (.func F2) #[] #[], .func (.func F3) #[] #[]] 49)
 generalize w2.alloc _ = w3 at b3 k3 ⊢
 have b23 := hb2.trans (b3.mono hb2.size)
 have f1 := six_of ((b23.block _ (lt_of_block k1)).trans k1)
 have f3 := four_of k3
 have hB := b1.trans (b23.mono b1.size)
 have EN3 := Lib.hid (EN w3 hB)
 have HB := Lib.hid hB
 generalize w2.heap.size = g3 at f3 ⊢
 clear EN FO k1 k3 b1 hb2 b3 b23 hB
 unfold EncW at EN3
 rcases hF with rfl | rfl | rfl <;> (
  go_wp2_with ((with_reducible refine (EN3.out).mono ?_); rintro e w4 ⟨rfl, hb4⟩)
  refine bodyPost_ret (v := .tuple #[.string S, .int .i64 E]) ?_ rfl ?_
  ·simp [results, Tryz.results9, go_sem]
  ·exact ⟨rfl, HB.out.trans (hb4.mono HB.out.size)⟩)
set_option maxHeartbeats 3200000 in
set_option maxRecDepth 100000 in
theorem encas_no {D : Nat} {Sx : Nat → Prop} (k : Int) (cs : List Value) (x : ND) (w : World) (h : NodeIn D Sx w cs x) (hk : k < 1 ∨ 3 < k) : Calls Tryz.prog 9 #[.int .i64 k, .agg cs.toArray] w (EncW ⟨#[]⟩ 2 w) := by
 obtain ⟨a1, l1, c1, a2, l2, c2, rfl⟩ := h.slices
 have FO := Lib.hid (fun wx : World => foof_any k wx)
 simp only [(foof_none hk).1, (foof_none hk).2] at FO
 have b1 := (Below.refl w.heap.size w).alloc (o := .cells #[.int .i64 x.kind, .bool x.bool, .int .i64 x.num, .string x.text, .slice a1 l1 c1, .slice a2 l2 c2] 30) (Nat.le_refl _)
 clear h hk
 go_enter Tryz.func9, Tryz.ntmps9
 go_upto_region 1 with fail
 generalize w.alloc _ = w1 at b1 ⊢
 go_upto_region 2 with (go_at_call 20; (with_reducible refine (FO.out _).mono ?_); rintro e w2 ⟨rfl, hb2⟩)
 have b3 := (Below.refl w2.heap.size w2).alloc (o := .cells #[.int .i64 0, .nilFunc, .nilFunc, .nilFunc] 49) (Nat.le_refl _)
 generalize w2.alloc _ = w3 at b3 ⊢
 have b23 := hb2.trans (b3.mono hb2.size)
 go_wp2
 refine bodyPost_ret (v := .tuple #[.string ⟨#[]⟩, .int .i64 2]) ?_ rfl ?_
 ·simp [results, Tryz.results9, go_sem]
 ·exact ⟨rfl, b1.trans (b23.mono b1.size)⟩
set_option maxHeartbeats 3200000 in
set_option maxRecDepth 100000 in
theorem decas_at (k : Int) (F F2 F3 : Nat) (s : ByteArray) (w : World) (P : ND → Int → Prop) (hF : F2 = 40 ∨ F2 = 43 ∨ F2 = 45) (hk : foR k = [.int .i64 k, .func (.func F) #[] #[], .func (.func F2) #[] #[], .func (.func F3) #[] #[]] ∧ foB k = true)
  (DE : ∀ wx, Below w.heap.size w wx → Calls Tryz.prog F2 #[.string s] wx (DecW P wx)) : Calls Tryz.prog 13 #[.int .i64 k, .string s] w (DecW P w) := by
 have FO := Lib.hid (fun wx : World => foof_any k wx)
 simp only [hk.1, hk.2] at FO
 have b1 := (Below.refl w.heap.size w).alloc (o := .cells #[.int .i64 0, .bool false, .int .i64 0, .string ⟨#[]⟩, .slice none 0 0, .slice none 0 0] 30) (Nat.le_refl _)
 have k1 := heap_alloc_new w (.cells #[.int .i64 0, .bool false, .int .i64 0, .string ⟨#[]⟩, .slice none 0 0, .slice none 0 0] 30)
 clear hk
 go_enter Tryz.func13, Tryz.ntmps13
 go_upto_region 1 with fail
 generalize w.alloc _ = w1 at b1 k1 ⊢
 go_upto_region 2 with (go_at_call 20; (with_reducible refine (FO.out _).mono ?_); rintro e w2 ⟨rfl, hb2⟩)
 have b3 := (Below.refl w2.heap.size w2).alloc (o := .cells #[.int .i64 k, .func (.func F) #[] #[], .func (.func F2) #[] #[], .func (.func F3) #[] #[]] 49) (Nat.le_refl _)
 have k3 := heap_alloc_new w2 (.cells #[.int .i64 k, .func (.func F) #[] #[], .func (.func F2) #[] #[], .func (.func F3) #[] #[]] 49)
 generalize w2.alloc _ = w3 at b3 k3 ⊢
 have b23 := hb2.trans (b3.mono hb2.size)
 have hr3 := (b23.block _ (lt_of_block k1)).trans k1
 have f3 := four_of k3
 have hB := b1.trans (b23.mono b1.size)
 have DE3 := Lib.hid (DE w3 hB)
 have HB := Lib.hid hB
 have HR3 := Lib.hid hr3
 have hg3 := b3.size
 have hg23 : w.heap.size < w3.heap.size := lt_of_block hr3
 have HZ := Lib.hid hg23
 have f1 := free_six hr3
 generalize w2.heap.size = g3 at f3 ⊢
 clear DE FO k1 k3 b1 hb2 b3 b23 hB hr3 hg3 hg23 f1
 unfold DecW at DE3
 rcases hF with rfl | rfl | rfl <;> (
  go_wp2_with ((with_reducible refine (DE3.out).mono ?_); rintro e w4 ⟨cs, x, er, rfl, hm, hb4, hP⟩; go_loud ((obtain ⟨a1, l1, c1, a2, l2, c2, hcs⟩ := hm.slices); subst hcs; (have hr4 := (hb4.block _ (lt_of_block HR3.out)).trans HR3.out); (have f1 := free_six hr4); (have cz := six_of hr4); (have HM := Lib.hid hm); (have HP := Lib.hid hP); (have HR4 := Lib.hid hr4); (have HB4 := Lib.hid hb4); clear hm hP hr4 hb4))
  refine bodyPost_ret (v := .tuple #[.agg #[.int .i64 x.kind, .bool x.bool, .int .i64 x.num, .string x.text, .slice a1 l1 c1, .slice a2 l2 c2], .int .i64 er]) ?_ rfl ?_
  ·obtain ⟨q0, q1, q2, q3, q4, q5⟩ := six_of (six_put HR4.out (.int .i64 x.kind) (.bool x.bool) (.int .i64 x.num) (.string x.text) (.slice a1 l1 c1) (.slice a2 l2 c2))
   simp only [set6] at q0 q1 q2 q3 q4 q5
   simp [results, Tryz.results13, go_sem, q0, q1, q2, q3, q4, q5]
  ·have hgs := grown_set6 w4 w.heap.size (.int .i64 x.kind) (.bool x.bool) (.int .i64 x.num) (.string x.text) (.slice a1 l1 c1) (.slice a2 l2 c2)
   have hz := HZ.out
   refine ⟨_, x, er, rfl, (HM.out.same fun b hb => hgs.block b hb.2 (by intro e; have := Option.some.inj e; omega)).mono fun b hb => ⟨by omega, Nat.lt_of_lt_of_le hb.2 hgs.size⟩, (HB.out.trans (HB4.out.mono HB.out.size)).grown hgs (HB.out.trans (HB4.out.mono HB.out.size)).size (fun k hk => by cases hk; exact Nat.le_refl _), HP.out⟩)
set_option maxHeartbeats 3200000 in
set_option maxRecDepth 100000 in
theorem decas_no (k : Int) (s : ByteArray) (w : World) (P : ND → Int → Prop) (hk : k < 1 ∨ 3 < k) (hP : P nd0 2) : Calls Tryz.prog 13 #[.int .i64 k, .string s] w (DecW P w) := by
 have FO := Lib.hid (fun wx : World => foof_any k wx)
 simp only [(foof_none hk).1, (foof_none hk).2] at FO
 have b1 := (Below.refl w.heap.size w).alloc (o := .cells #[.int .i64 0, .bool false, .int .i64 0, .string ⟨#[]⟩, .slice none 0 0, .slice none 0 0] 30) (Nat.le_refl _)
 have k1 := heap_alloc_new w (.cells #[.int .i64 0, .bool false, .int .i64 0, .string ⟨#[]⟩, .slice none 0 0, .slice none 0 0] 30)
 have HP := Lib.hid hP
 clear hk hP
 go_enter Tryz.func13, Tryz.ntmps13
 go_upto_region 1 with fail
 generalize w.alloc _ = w1 at b1 k1 ⊢
 go_upto_region 2 with (go_at_call 20; (with_reducible refine (FO.out _).mono ?_); rintro e w2 ⟨rfl, hb2⟩)
 have b3 := (Below.refl w2.heap.size w2).alloc (o := .cells #[.int .i64 0, .nilFunc, .nilFunc, .nilFunc] 49) (Nat.le_refl _)
 generalize w2.alloc _ = w3 at b3 ⊢
 have b23 := hb2.trans (b3.mono hb2.size)
 have hr3 := (b23.block _ (lt_of_block k1)).trans k1
 have HB := Lib.hid (b1.trans (b23.mono b1.size))
 have HR3 := Lib.hid hr3
 have f1 := free_six hr3
 have cz := six_of hr3
 clear FO k1 b1 hb2 b3 b23 hr3
 go_wp2
 refine bodyPost_ret (v := .tuple #[.agg #[.int .i64 0, .bool false, .int .i64 0, .string ⟨#[]⟩, .slice none 0 0, .slice none 0 0], .int .i64 2]) ?_ rfl ?_
 ·obtain ⟨q0, q1, q2, q3, q4, q5⟩ := six_of (six_put HR3.out (.int .i64 0) (.bool false) (.int .i64 0) (.string ⟨#[]⟩) (.slice none 0 0) (.slice none 0 0))
  simp only [set6] at q0 q1 q2 q3 q4 q5
  simp [results, Tryz.results13, go_sem, q0, q1, q2, q3, q4, q5]
 ·exact ⟨_, nd0, 2, rfl, (node_leaf _ _ 0 false 0 ⟨#[]⟩ (by decide)).deeper (by decide), HB.out.grown (grown_set6 _ w.heap.size (.int .i64 0) (.bool false) (.int .i64 0) (.string ⟨#[]⟩) (.slice none 0 0) (.slice none 0 0)) HB.out.size (fun k hk => by cases hk; exact Nat.le_refl _), HP.out⟩
end Go.Proofs.YtdppdonaojdceaaGreatDoor
