/- The kit's dice for nodes: one of some strings (Word), a text (Text). Then: A node under construction: what the kit's Node and Map hold while they add names and items. -/
import Derived.Test.YtdppdonaojdceaaGreatDoorBset
namespace Go.Proofs.YtdppdonaojdceaaGreatDoor
open Go.ChangeShapes Go.WideShapes Go.ChangeAt Go.RowKit
set_option linter.unusedVariables false
set_option linter.unusedSimpArgs false

set_option maxHeartbeats 800000 in
set_option maxRecDepth 100000 in
/-- Some string of a slice that is not empty. -/
theorem word_any (B g b cap : Nat) (n : Nat) (ns : List ByteArray) (w : World) (h1 : 1 ≤ n) (hn : n < 2 ^ 62) (hl : ns.length = n) (hc : ∀ j s, ns[j]? = some s → w.cell? ⟨b, j, none⟩ = some (.string s)) (hb : b ≠ g) (hd : DiceAt B w g) :
  Calls Tryz.prog 29 #[.pointer (some ⟨g, 0, none⟩), .slice (some ⟨b, 0, none⟩) n cap] w fun e w' => (∃ s, s ∈ ns ∧ e = .returned (.string s)) ∧ w.grownBy w' (some g) ∧ DiceAt B w' g := by
 have N := Lib.hid (fun (wx : World) (hx : DiceAt B wx g) => next_any B g n wx h1 hn hx)
 go_enter Tryz.func29, Tryz.ntmps29
 have CC := Lib.hid hc
 clear hc
 go_wp2_with (go_at_call 19; (with_reducible refine (N.out _ hd).mono ?_); rintro e w1 ⟨⟨k, hk, rfl⟩, hg1, hd1⟩; go_loud ((have hk1 : k < ns.length := by omega); (have hk2 : (k : Int) < (n : Int) := by omega); (have hk3 : (0 : Int) ≤ (k : Int) := by omega); (have hm : ns[k] ∈ ns := List.getElem_mem hk1); (have hcell : w1.cell? ⟨b, k, none⟩ = some (.string ns[k]) := hg1.cell (CC.out k _ (List.getElem?_eq_getElem hk1)) (by intro e; have := Option.some.inj e; dsimp only at this; omega)); generalize ns[k] = s at hcell hm))
 go_ret
 exact ⟨⟨s, hm, rfl⟩, hg1, hd1⟩

/-- The cells of a literal slice. -/
theorem cells_lit {w : World} {b : Nat} {T : TypeId} {cs : Array Value} (vs : List Value) (h : w.heap[b]? = some (.cells cs T (0, 0))) (e : cs = vs.toArray) : ∀ j v, vs[j]? = some v → w.cell? ⟨b, j, none⟩ = some v := by
 intro j v hj
 subst e
 simp [World.cell?, h, hj]
theorem cells_lits {w : World} {b : Nat} {T : TypeId} {cs : Array Value} (ns : List ByteArray) (h : w.heap[b]? = some (.cells cs T (0, 0))) (e : cs = (ns.map Value.string).toArray) : ∀ j s, ns[j]? = some s → w.cell? ⟨b, j, none⟩ = some (.string s) :=
 fun j s hj => cells_lit _ h e j _ (by rw [List.getElem?_map, hj]; rfl)
/-- Some text that may stand in a node. -/
def SomeText (e : Ending) : Prop := ∃ s : ByteArray, textOk s = true ∧ s.size ≤ 300 ∧ e = .returned (.string s)
def kTexts : List ByteArray := [⟨#[]⟩, ⟨#[97]⟩, ⟨#[66, 111, 110, 110]⟩, ⟨#[97, 32, 34, 113, 117, 111, 116, 101, 100, 34, 32, 92, 32, 116, 101, 120, 116]⟩, ⟨#[108, 105, 110, 101, 10, 97, 110, 100, 9, 116, 97, 98, 1, 31, 127]⟩, ⟨#[195, 164, 226, 130, 172, 240, 159, 152, 128]⟩, ⟨#[75, 69, 82, 73, 49, 48, 74, 83, 79, 78, 48, 48, 48, 48, 50, 97, 95]⟩]
theorem kTexts_ok : ∀ s, s ∈ kTexts → s.size ≤ 20 ∧ Lib.validD s.data.toList = true := by decide +kernel
def kLens : List Int := [23, 24, 31, 32, 255, 256]
theorem kLens_ok : ∀ j, j < 6 → ∃ z : Int, kLens[j]? = some z ∧ z ≤ 256 := by
 intro j hj
 obtain rfl | rfl | rfl | rfl | rfl | rfl : j = 0 ∨ j = 1 ∨ j = 2 ∨ j = 3 ∨ j = 4 ∨ j = 5 := by omega
 all_goals exact ⟨_, rfl, by decide⟩
set_option maxHeartbeats 1600000 in
set_option maxRecDepth 100000 in
theorem ktext_any (B g : Nat) (w : World) (hd : DiceAt B w g) :
  Calls Tryz.prog 28 #[.pointer (some ⟨g, 0, none⟩)] w fun e w' => SomeText e ∧ w.grownBy w' (some g) ∧ DiceAt B w' g := by
 have N10 := Lib.hid (fun (wx : World) (hx : DiceAt B wx g) => next_lit B g 10 10 rfl wx (by decide) (by decide) hx)
 have N6 := Lib.hid (fun (wx : World) (hx : DiceAt B wx g) => next_lit B g 6 6 rfl wx (by decide) (by decide) hx)
 have hgw := hd.lt
 obtain ⟨b0, hb0⟩ : ∃ b0, b0 = Obj.cells (kTexts.map Value.string).toArray 9 (0, 0) := ⟨_, rfl⟩
 have WD := Lib.hid (word_any B g w.heap.size 7 7 kTexts (w.alloc (.cells (kTexts.map Value.string).toArray 9)) (by decide) (by decide) rfl (cells_lits kTexts (heap_alloc_new _ _) rfl) (by omega) (hd.go ((Below.refl w.heap.size w).alloc (Nat.le_refl _) _)))
 have q0 := galloc w (.cells (kTexts.map Value.string).toArray 9) (some g)
 clear hd hb0
 go_enter Tryz.func28, Tryz.ntmps28
 go_upto_if 7 with (first
  | (go_at_call 29; refine (WD.out).mono ?_; rintro e w1 ⟨⟨s0, hs0, rfl⟩, hg1, hd1⟩)
  | (go_at_call 19; (with_reducible refine (N10.out _ hd1).mono ?_); rintro e w2 ⟨⟨k, hk, rfl⟩, hg2, hd2⟩))
 all_goals have hs := kTexts_ok s0 hs0
 all_goals have q2 := gtrans (gtrans q0 hg1) hg2
 rotate_left
 ·go_ret
  exact ⟨⟨s0, by unfold textOk; rw [hs.2, decide_eq_true (show s0.size ≤ 65536 by omega)]; rfl, by omega, rfl⟩, q2, hd2⟩
 ·have HQ := Lib.hid q2
  have HD := Lib.hid hd2
  clear q2 hd2 hg1 hg2 hd1 q0 WD N10
  generalize Value.bool ((k : Int) == 1) = vb
  go_loopw [3] (fun v wr => ∃ s : ByteArray, Lib.validD s.data.toList = true ∧ s.size ≤ 256 ∧ v = .string s ∧ w.grownBy wr (some g) ∧ DiceAt B wr g) (fun v _ => 300 - strSize v)
  case atStart => exact ⟨s0, hs.2, by omega, rfl, HQ.out, HD.out⟩
  case round =>
   clear HQ HD hs hs0
   obtain ⟨s, hv, hz, rfl, hq, hdi⟩ := hrel
   have hcat : ¬ 9223372036854775807 < s.size + 1 := by omega
   have hb0 : (wr.alloc (.cells #[.int .i64 23, .int .i64 24, .int .i64 31, .int .i64 32, .int .i64 255, .int .i64 256] 3)).heap[wr.heap.size]? = some (.cells #[.int .i64 23, .int .i64 24, .int .i64 31, .int .i64 32, .int .i64 255, .int .i64 256] 3 (0, 0)) := heap_alloc_new _ _
   have hgr := hdi.lt
   have hdA := hdi.go ((Below.refl wr.heap.size wr).alloc (o := .cells #[.int .i64 23, .int .i64 24, .int .i64 31, .int .i64 32, .int .i64 255, .int .i64 256] 3) (Nat.le_refl _))
   have hqA := gtrans hq (galloc wr (.cells #[.int .i64 23, .int .i64 24, .int .i64 31, .int .i64 32, .int .i64 255, .int .i64 256] 3) (some g))
   go_upto_if 17 with (go_at_call 19; (with_reducible refine (N6.out _ hdA).mono ?_); rintro e w3 ⟨⟨k3, hk3, rfl⟩, hg3, hd3⟩; go_loud ((have hb3 := keepG hg3 (by omega) hb0); (obtain ⟨z, hz1, hz2⟩ := kLens_ok k3 hk3); (have hi1 : (k3 : Int) < 6 := by omega); (have hi2 : (0 : Int) ≤ (k3 : Int) := by omega); (have hcell : w3.cell? ⟨wr.heap.size, k3, none⟩ = some (.int .i64 z) := cells_lit (kLens.map fun z => .int .i64 z) hb3 rfl k3 _ (by rw [List.getElem?_map, hz1]; rfl))))
   have hq3 := gtrans hqA hg3
   by_cases hlt : (s.size : Int) < z
   ·go_wp2
    go_roundw
    case rel => exact ⟨s ++ { data := #[120] }, valid_app hv (by decide), by rw [ByteArray.size_append]; show s.size + 1 ≤ _; omega, rfl, hq3, hd3⟩
    case measure =>
     show 300 - (s ++ { data := #[120] }).size < 300 - s.size
     rw [ByteArray.size_append]
     show 300 - (s.size + 1) < _
     omega
   ·go_wp2
    go_ret
    exact ⟨⟨s, by unfold textOk; rw [hv, decide_eq_true (show s.size ≤ 65536 by omega)]; rfl, by omega, rfl⟩, hq3, hd3⟩

end Go.Proofs.YtdppdonaojdceaaGreatDoor

namespace Go.Proofs.YtdppdonaojdceaaGreatDoor
open Go.RowKit
set_option linter.unusedVariables false
set_option linter.unusedSimpArgs false

/-- The result's block, the node's block nb, its two slices, the dice in block g. -/
structure NSt (TN TS : TypeId) (d : Nat) (w wx : World) (g nb C : Nat) (k : Int) (vn vi : Value) (ns : List ByteArray) (A : List NC) : Prop where
 res : wx.heap[w.heap.size]? = some (.cells #[.int .i64 0, .bool false, .int .i64 0, .string ⟨#[]⟩, .slice none 0 0, .slice none 0 0] TN (0, 0))
 nod : wx.heap[nb]? = some (.cells #[.int .i64 k, .bool false, .int .i64 0, .string ⟨#[]⟩, vn, vi] TN (0, 0))
 lo : g < w.heap.size ∧ w.heap.size < nb ∧ nb < C ∧ C ≤ wx.heap.size
 names : SRow TS C wx vn ns
 items : NRow TN d C vn.ownBlock wx vi A
 gro : w.grownBy wx (some g)
section
variable {TN TS : TypeId} {d : Nat} {w wx wn : World} {g nb C : Nat} {k : Int} {vn vi : Value} {ns : List ByteArray} {A : List NC}
theorem NSt.grown (h : NSt TN TS d w wx g nb C k vn vi ns A) (hg : wx.grownBy wn (some g)) : NSt TN TS d w wn g nb C k vn vi ns A := by
 obtain ⟨l1, l2, l3, l4⟩ := h.lo
 refine ⟨keepG hg (by omega) h.res, keepG hg (by omega) h.nod, ⟨l1, l2, l3, Nat.le_trans l4 hg.size⟩, h.names.kept hg ?_, h.items.kept hg (fun r e => by cases e; exact .inl (by omega)) (.inl rfl), gtrans h.gro hg⟩
 cases e : vn.ownBlock with
 | none => exact .inl rfl
 | some b => exact .inr (fun e' => by cases e'; have := (h.names.1.lt _ e).1; omega)
theorem NSt.below (h : NSt TN TS d w wx g nb C k vn vi ns A) (hb : Below wx.heap.size wx wn) : NSt TN TS d w wn g nb C k vn vi ns A := h.grown (grown_of_below hb (Nat.le_refl _) _)
/-- What lies below C is not touched by an append to one of the rows. -/
theorem NSt.apart (h : NSt TN TS d w wx g nb C k vn vi ns A) {row : Option Nat} (hr : row = vn.ownBlock ∨ row = vi.ownBlock) (hg : wx.grownBy wn row) (j : Nat) (hj : j < C) : wn.heap[j]? = wx.heap[j]? := by
 obtain ⟨l1, l2, l3, l4⟩ := h.lo
 refine hg.block j (by omega) fun e => ?_
 rcases hr with rfl | rfl
 ·have := (h.names.1.lt j e.symm).1; omega
 ·have := (h.items.1.lt j e.symm).1; omega
theorem NSt.gro2 (h : NSt TN TS d w wx g nb C k vn vi ns A) {row : Option Nat} (hr : row = vn.ownBlock ∨ row = vi.ownBlock) (hg : wx.grownBy wn row) : w.grownBy wn (some g) := by
 obtain ⟨l1, l2, l3, l4⟩ := h.lo
 exact ⟨hg.os.trans h.gro.os, hg.tape.trans h.gro.tape, hg.output.trans h.gro.output, Nat.le_trans h.gro.size hg.size, fun i hi hne => (h.apart hr hg i (by omega)).trans (h.gro.block i hi hne)⟩
/-- One name more. -/
theorem NSt.name {vn' : Value} {s : ByteArray} (h : NSt TN TS d w wx g nb C k vn vi ns A) (hown : wn.ownsRow C TS 1 vn' (ns.length + 1) (ns.map Value.string ++ [.string s])) (hg : wx.grownBy wn vn.ownBlock) (hat : vn'.ownBlock = vn.ownBlock ∨ ∀ b, vn'.ownBlock = some b → wx.heap.size ≤ b) (hs : s.size ≤ maxLen - 2) :
  NSt TN TS d w (wn.setCell ⟨nb, 4, none⟩ vn') g nb C k vn' vi (ns ++ [s]) A := by
 obtain ⟨l1, l2, l3, l4⟩ := h.lo
 have hne : ∀ i, i ≠ nb → (wn.setCell ⟨nb, 4, none⟩ vn').heap[i]? = wn.heap[i]? := fun i hi => heap_setCell_other wn ⟨nb, 4, none⟩ i _ hi
 have hsz : (wn.setCell ⟨nb, 4, none⟩ vn').heap.size = wn.heap.size := by simp
 have hgs := grown_set wn nb 4 vn'
 refine ⟨(hne _ (by omega)).trans ((h.apart (.inl rfl) hg _ (by omega)).trans h.res), six_set4 ((h.apart (.inl rfl) hg nb l3).trans h.nod) vn', ⟨l1, l2, l3, by rw [hsz]; exact Nat.le_trans l4 hg.size⟩, ?_, ?_, ?_⟩
 ·exact (h.names.push hown hs).kept hgs (by
   cases e : vn'.ownBlock with
   | none => exact .inl rfl
   | some b => exact .inr (fun e' => by cases e'; have := (hown.lt _ e).1; omega))
 ·have h1 : NRow TN d C vn'.ownBlock wn vi A := h.items.kept hg (fun r e => .inr e) hat
  exact h1.kept hgs (fun r e => by cases e; exact .inl l3) (.inl rfl)
 ·have h2 := h.gro2 (.inl rfl) hg
  exact ⟨h2.os, h2.tape, h2.output, by rw [hsz]; exact h2.size, fun i hi hn => (hne i (by omega)).trans (h2.block i hi hn)⟩
/-- One item more. -/
theorem NSt.item {vi' : Value} {cs : List Value} {x : ND} (h : NSt TN TS d w wx g nb C k vn vi ns A) (hown : wn.ownsRow C TN 6 vi' (A.length + 1) (nCells A ++ cs)) (hg : wx.grownBy wn vi.ownBlock) (hat : vi'.ownBlock = vi.ownBlock ∨ ∀ b, vi'.ownBlock = some b → wx.heap.size ≤ b)
  (hp : NodeIn d (fun b => C ≤ b ∧ b < wx.heap.size ∧ vi.ownBlock ≠ some b ∧ vn.ownBlock ≠ some b) wx cs x) :
  NSt TN TS d w (wn.setCell ⟨nb, 5, none⟩ vi') g nb C k vn vi' ns (A ++ [(cs, x)]) := by
 obtain ⟨l1, l2, l3, l4⟩ := h.lo
 have hne : ∀ i, i ≠ nb → (wn.setCell ⟨nb, 5, none⟩ vi').heap[i]? = wn.heap[i]? := fun i hi => heap_setCell_other wn ⟨nb, 5, none⟩ i _ hi
 have hsz : (wn.setCell ⟨nb, 5, none⟩ vi').heap.size = wn.heap.size := by simp
 have hgs := grown_set wn nb 5 vi'
 refine ⟨(hne _ (by omega)).trans ((h.apart (.inr rfl) hg _ (by omega)).trans h.res), six_set5 ((h.apart (.inr rfl) hg nb l3).trans h.nod) vi', ⟨l1, l2, l3, by rw [hsz]; exact Nat.le_trans l4 hg.size⟩, ?_, ?_, ?_⟩
 ·refine (h.names.kept hg ?_).kept hgs ?_
  ·cases e : vn.ownBlock with
   | none => exact .inl rfl
   | some b => exact .inr (fun e' => h.items.2.1 b e e'.symm)
  ·cases e : vn.ownBlock with
   | none => exact .inl rfl
   | some b => exact .inr (fun e' => by cases e'; have := (h.names.1.lt _ e).1; omega)
 ·exact (h.items.push hown hg hat (fun b e => (h.names.1.lt b e).2) hp).kept hgs (fun r e => by cases e; exact .inl l3) (.inl rfl)
 ·have h2 := h.gro2 (.inr rfl) hg
  exact ⟨h2.os, h2.tape, h2.output, by rw [hsz]; exact h2.size, fun i hi hn => (hne i (by omega)).trans (h2.block i hi hn)⟩
theorem NSt.dice {B : Nat} (h : NSt TN TS d w wx g nb C k vn vi ns A) {row : Option Nat} (hr : row = vn.ownBlock ∨ row = vi.ownBlock) (hd : DiceAt B wx g) (hg : wx.grownBy wn row) (o : Nat) (v : Value) : DiceAt B (wn.setCell ⟨nb, o, none⟩ v) g := by
 obtain ⟨l1, l2, l3, l4⟩ := h.lo
 exact DiceAt.setNew (hd.same fun j hj => h.apart hr hg j (by omega)) (by omega) _ _
/-- The start: two new blocks, nothing in them. -/
theorem NSt.begin (hres : wx.heap[w.heap.size]? = some (.cells #[.int .i64 0, .bool false, .int .i64 0, .string ⟨#[]⟩, .slice none 0 0, .slice none 0 0] TN (0, 0))) (hnod : wx.heap[nb]? = some (.cells #[.int .i64 k, .bool false, .int .i64 0, .string ⟨#[]⟩, .slice none 0 0, .slice none 0 0] TN (0, 0)))
  (l1 : g < w.heap.size) (l2 : w.heap.size < nb) (hg : w.grownBy wx (some g)) : NSt TN TS d w wx g nb wx.heap.size k (.slice none 0 0) (.slice none 0 0) [] [] :=
 ⟨hres, hnod, ⟨l1, l2, lt_of_block hnod, Nat.le_refl _⟩, SRow.nil _ _ _, NRow.nil _ _ _ _ _, hg⟩
/-- What has been built is a node. -/
theorem NSt.node (h : NSt TN TS d w wx g nb C k vn vi ns A) : NodeIn (d + 1) (fun b => w.heap.size < b ∧ b < wx.heap.size) wx [.int .i64 k, .bool false, .int .i64 0, .string ⟨#[]⟩, vn, vi] (.mk k false 0 ⟨#[]⟩ ns (nodesOf A)) := by
 obtain ⟨l1, l2, l3, l4⟩ := h.lo
 exact ⟨vn, vi, rfl, (show (0 : Nat) ≤ maxLen - 2 from Nat.zero_le _), h.names.strs.mono fun b hb => ⟨by omega, hb.2⟩, h.items.nodes.mono (fun b hb => ⟨by omega, hb.2⟩) fun cs x q => q.mono fun b hb => ⟨by omega, hb.2⟩⟩
end
theorem NodeIn.one {d : Nat} {S : Nat → Prop} {w : World} {cs : List Value} {x : ND} (h : NodeIn d S w cs x) : ∀ u ∈ cs, u.oneCell' = true := by
 cases d with
 | zero => exact h.elim
 | succ d =>
  obtain ⟨va, vb, rfl, _, ⟨a1, c1, rfl, _⟩, ⟨a2, c2, rfl, _⟩⟩ := h
  intro u hu
  simp only [List.mem_cons, List.not_mem_nil, or_false] at hu
  rcases hu with rfl | rfl | rfl | rfl | rfl | rfl <;> rfl
/-- A node that a call has made since, now beside a row under construction. -/
theorem NSt.fresh {TN TS : TypeId} {d : Nat} {w wx w6 w7 : World} {g nb C : Nat} {k : Int} {vn vi : Value} {ns : List ByteArray} {A : List NC} {cs : List Value} {x : ND}
  (h : NSt TN TS d w wx g nb C k vn vi ns A) (hx : NodeIn d (fun b => wx.heap.size ≤ b ∧ b < w6.heap.size) w6 cs x) (hg : Below w6.heap.size w6 w7) :
  NodeIn d (fun b => C ≤ b ∧ b < w7.heap.size ∧ vi.ownBlock ≠ some b ∧ vn.ownBlock ≠ some b) w7 cs x := by
 obtain ⟨l1, l2, l3, l4⟩ := h.lo
 refine (hx.same (w' := w7) fun b hb => hg.block b hb.2).mono fun b hb => ⟨by omega, Nat.lt_of_lt_of_le hb.2 hg.size, fun e => ?_, fun e => ?_⟩
 ·have := (h.items.1.lt b e).2; omega
 ·have := (h.names.1.lt b e).2; omega
/-- Where an append's slice lies. -/
theorem own_at {v : Value} {gg m cc H : Nat} (h : v.ownBlock = some gg ∨ gg = H) : (Value.slice (some ⟨gg, 0, none⟩) m cc).ownBlock = v.ownBlock ∨ ∀ b, (Value.slice (some ⟨gg, 0, none⟩) m cc).ownBlock = some b → H ≤ b := by
 rcases h with h | h
 ·exact .inl h.symm
 ·exact .inr fun b hb => by
   have : gg = b := by simpa [Value.ownBlock] using hb
   omega
/-- Some node that is valid and at most d deep, in blocks of its own. -/
def SomeNode (d : Nat) (w : World) (e : Ending) (w' : World) : Prop :=
 ∃ cs x, e = .returned (.agg cs.toArray) ∧ NodeIn d (fun b => w.heap.size ≤ b ∧ b < w'.heap.size) w' cs x ∧ validK d x = true

theorem NSt.viForm {TN TS : TypeId} {d : Nat} {w wx : World} {g nb C : Nat} {k : Int} {vn vi : Value} {ns : List ByteArray} {A : List NC} (h : NSt TN TS d w wx g nb C k vn vi ns A) : ∃ ai ci, vi = .slice ai A.length ci := by
 obtain ⟨a, c, e, _⟩ := h.items.nodes
 exact ⟨a, c, by rw [e, nodesOf, List.length_map]⟩
theorem NSt.vnForm {TN TS : TypeId} {d : Nat} {w wx : World} {g nb C : Nat} {k : Int} {vn vi : Value} {ns : List ByteArray} {A : List NC} (h : NSt TN TS d w wx g nb C k vn vi ns A) : ∃ an cn, vn = .slice an ns.length cn := by
 obtain ⟨a, c, e, _⟩ := h.names.strs
 exact ⟨a, c, e⟩
/-- The length of the slice that a cell holds. -/
def lenAt (w : World) (b o : Nat) : Nat := match w.cell? ⟨b, o, none⟩ with
 | some (.slice _ l _) => l
 | _ => 0
theorem NSt.len {TN TS : TypeId} {d : Nat} {w wx : World} {g nb C : Nat} {k : Int} {vn vi : Value} {ns : List ByteArray} {A : List NC} (h : NSt TN TS d w wx g nb C k vn vi ns A) : lenAt wx nb 5 = A.length := by
 obtain ⟨ai, ci, rfl⟩ := h.viForm
 unfold lenAt
 rw [(six_of h.nod).2.2.2.2.2]
/-- The finished node is stored into the result's block. -/
theorem NSt.done {TN TS : TypeId} {d : Nat} {w wx : World} {g nb C : Nat} {k : Int} {vn vi : Value} {ns : List ByteArray} {A : List NC} (h : NSt TN TS d w wx g nb C k vn vi ns A) :
  NodeIn (d + 1) (fun b => w.heap.size ≤ b ∧ b < (set6 wx w.heap.size (.int .i64 k) (.bool false) (.int .i64 0) (.string ⟨#[]⟩) vn vi).heap.size) (set6 wx w.heap.size (.int .i64 k) (.bool false) (.int .i64 0) (.string ⟨#[]⟩) vn vi) [.int .i64 k, .bool false, .int .i64 0, .string ⟨#[]⟩, vn, vi] (.mk k false 0 ⟨#[]⟩ ns (nodesOf A))
  ∧ w.grownBy (set6 wx w.heap.size (.int .i64 k) (.bool false) (.int .i64 0) (.string ⟨#[]⟩) vn vi) (some g) ∧ ∀ B, DiceAt B wx g → DiceAt B (set6 wx w.heap.size (.int .i64 k) (.bool false) (.int .i64 0) (.string ⟨#[]⟩) vn vi) g := by
 obtain ⟨l1, l2, l3, l4⟩ := h.lo
 have hgs := grown_set6 wx w.heap.size (.int .i64 k) (.bool false) (.int .i64 0) (.string ⟨#[]⟩) vn vi
 refine ⟨?_, ?_, fun B hd => ?_⟩
 ·exact (h.node.same fun b hb => hgs.block b hb.2 (by intro e; have := Option.some.inj e; omega)).mono fun b hb => ⟨by omega, Nat.lt_of_lt_of_le hb.2 hgs.size⟩
 ·have := h.gro
  exact ⟨hgs.os.trans this.os, hgs.tape.trans this.tape, hgs.output.trans this.output, Nat.le_trans this.size hgs.size, fun i hi hn => (hgs.block i (Nat.lt_of_lt_of_le hi this.size) (by intro e; have := Option.some.inj e; omega)).trans (this.block i hi hn)⟩
 ·exact hd.same fun q hq => hgs.block q (by omega) (by intro e; have := Option.some.inj e; omega)
/-- A leaf is stored into the result's block. -/
theorem leaf_done {n B g : Nat} {w wx : World} (hn : 1 ≤ n) (hg : g < w.heap.size) (hgr : w.grownBy wx (some g)) (hd : DiceAt B wx g) (k : Int) (b : Bool) (z : Int) (t : ByteArray) (ht : t.size ≤ maxLen - 2) (hv : validK n (.mk k b z t [] []) = true) :
  SomeNode n w (.returned (.agg #[.int .i64 k, .bool b, .int .i64 z, .string t, .slice none 0 0, .slice none 0 0])) (set6 wx w.heap.size (.int .i64 k) (.bool b) (.int .i64 z) (.string t) (.slice none 0 0) (.slice none 0 0))
  ∧ w.grownBy (set6 wx w.heap.size (.int .i64 k) (.bool b) (.int .i64 z) (.string t) (.slice none 0 0) (.slice none 0 0)) (some g) ∧ DiceAt B (set6 wx w.heap.size (.int .i64 k) (.bool b) (.int .i64 z) (.string t) (.slice none 0 0) (.slice none 0 0)) g := by
 have hgs := grown_set6 wx w.heap.size (.int .i64 k) (.bool b) (.int .i64 z) (.string t) (.slice none 0 0) (.slice none 0 0)
 refine ⟨⟨[.int .i64 k, .bool b, .int .i64 z, .string t, .slice none 0 0, .slice none 0 0], _, rfl, (node_leaf _ _ k b z t ht).deeper hn, hv⟩, ?_, ?_⟩
 ·exact ⟨hgs.os.trans hgr.os, hgs.tape.trans hgr.tape, hgs.output.trans hgr.output, Nat.le_trans hgr.size hgs.size, fun i hi hn => (hgs.block i (Nat.lt_of_lt_of_le hi hgr.size) (by intro e; have := Option.some.inj e; omega)).trans (hgr.block i hi hn)⟩
 ·exact hd.same fun q hq => hgs.block q (by have := hd.lt; omega) (by intro e; have := Option.some.inj e; omega)

end Go.Proofs.YtdppdonaojdceaaGreatDoor
