/- A node under construction: what the kit's Node and Map hold while they add names and items. -/
import Derived.Test.YtmlmdidaldcoiaaGreatDoorNkit
namespace Go.Proofs.YtmlmdidaldcoiaaGreatDoor
open Go.RowKit
set_option linter.unusedVariables false
set_option linter.unusedSimpArgs false

/-- The result's block, the node's block nb, its two slices, the dice in block g. -/
structure NSt (TN TS : TypeId) (d : Nat) (w wx : World) (g nb C : Nat) (k : Int) (vn vi : Value) (ns : List ByteArray) (A : List NC) : Prop where
 res : wx.heap[w.heap.size]? = some (.cells #[.int .i64 0, .bool false, .int .i64 0, .string ⟨#[]⟩, .slice none 0 0, .slice none 0 0] TN (0, 0))
 nod : wx.heap[nb]? = some (.cells #[.int .i64 k, .bool false, .int .i64 0, .string ⟨#[]⟩, vn, vi] TN (0, 0))
 lo : g < w.heap.size ∧ w.heap.size < nb ∧ nb < C ∧ C ≤ wx.heap.size
 names : SRow TS C wx vn ns
 items : NRow TN d C vn.ownBlock wx vi A
 gro : w.grownBy wx (some g)
section
variable {TN TS : TypeId} {d : Nat} {w wx wn : World} {g nb C : Nat} {k : Int} {vn vi : Value} {ns : List ByteArray} {A : List NC}
theorem NSt.grown (h : NSt TN TS d w wx g nb C k vn vi ns A) (hg : wx.grownBy wn (some g)) : NSt TN TS d w wn g nb C k vn vi ns A := by
 obtain ⟨l1, l2, l3, l4⟩ := h.lo
 refine ⟨keepG hg (by omega) h.res, keepG hg (by omega) h.nod, ⟨l1, l2, l3, Nat.le_trans l4 hg.size⟩, h.names.kept hg ?_, h.items.kept hg (fun r e => by cases e; exact .inl (by omega)) (.inl rfl), gtrans h.gro hg⟩
 cases e : vn.ownBlock with
 | none => exact .inl rfl
 | some b => exact .inr (fun e' => by cases e'; have := (h.names.1.lt _ e).1; omega)
theorem NSt.below (h : NSt TN TS d w wx g nb C k vn vi ns A) (hb : Below wx.heap.size wx wn) : NSt TN TS d w wn g nb C k vn vi ns A := h.grown (grown_of_below hb (Nat.le_refl _) _)
/-- What lies below C is not touched by an append to one of the rows. -/
theorem NSt.apart (h : NSt TN TS d w wx g nb C k vn vi ns A) {row : Option Nat} (hr : row = vn.ownBlock ∨ row = vi.ownBlock) (hg : wx.grownBy wn row) (j : Nat) (hj : j < C) : wn.heap[j]? = wx.heap[j]? := by
 obtain ⟨l1, l2, l3, l4⟩ := h.lo
 refine hg.block j (by omega) fun e => ?_
 rcases hr with rfl | rfl
 ·have := (h.names.1.lt j e.symm).1; omega
 ·have := (h.items.1.lt j e.symm).1; omega
theorem NSt.gro2 (h : NSt TN TS d w wx g nb C k vn vi ns A) {row : Option Nat} (hr : row = vn.ownBlock ∨ row = vi.ownBlock) (hg : wx.grownBy wn row) : w.grownBy wn (some g) := by
 obtain ⟨l1, l2, l3, l4⟩ := h.lo
 exact ⟨hg.os.trans h.gro.os, hg.tape.trans h.gro.tape, hg.output.trans h.gro.output, Nat.le_trans h.gro.size hg.size, fun i hi hne => (h.apart hr hg i (by omega)).trans (h.gro.block i hi hne)⟩
/-- One name more. -/
theorem NSt.name {vn' : Value} {s : ByteArray} (h : NSt TN TS d w wx g nb C k vn vi ns A) (hown : wn.ownsRow C TS 1 vn' (ns.length + 1) (ns.map Value.string ++ [.string s])) (hg : wx.grownBy wn vn.ownBlock) (hat : vn'.ownBlock = vn.ownBlock ∨ ∀ b, vn'.ownBlock = some b → wx.heap.size ≤ b) (hs : s.size ≤ maxLen - 2) :
  NSt TN TS d w (wn.setCell ⟨nb, 4, none⟩ vn') g nb C k vn' vi (ns ++ [s]) A := by
 obtain ⟨l1, l2, l3, l4⟩ := h.lo
 have hne : ∀ i, i ≠ nb → (wn.setCell ⟨nb, 4, none⟩ vn').heap[i]? = wn.heap[i]? := fun i hi => heap_setCell_other wn ⟨nb, 4, none⟩ i _ hi
 have hsz : (wn.setCell ⟨nb, 4, none⟩ vn').heap.size = wn.heap.size := by simp
 have hgs := grown_set wn nb 4 vn'
 refine ⟨(hne _ (by omega)).trans ((h.apart (.inl rfl) hg _ (by omega)).trans h.res), six_set4 ((h.apart (.inl rfl) hg nb l3).trans h.nod) vn', ⟨l1, l2, l3, by rw [hsz]; exact Nat.le_trans l4 hg.size⟩, ?_, ?_, ?_⟩
 ·exact (h.names.push hown hs).kept hgs (by
   cases e : vn'.ownBlock with
   | none => exact .inl rfl
   | some b => exact .inr (fun e' => by cases e'; have := (hown.lt _ e).1; omega))
 ·have h1 : NRow TN d C vn'.ownBlock wn vi A := h.items.kept hg (fun r e => .inr e) hat
  exact h1.kept hgs (fun r e => by cases e; exact .inl l3) (.inl rfl)
 ·have h2 := h.gro2 (.inl rfl) hg
  exact ⟨h2.os, h2.tape, h2.output, by rw [hsz]; exact h2.size, fun i hi hn => (hne i (by omega)).trans (h2.block i hi hn)⟩
/-- One item more. -/
theorem NSt.item {vi' : Value} {cs : List Value} {x : ND} (h : NSt TN TS d w wx g nb C k vn vi ns A) (hown : wn.ownsRow C TN 6 vi' (A.length + 1) (nCells A ++ cs)) (hg : wx.grownBy wn vi.ownBlock) (hat : vi'.ownBlock = vi.ownBlock ∨ ∀ b, vi'.ownBlock = some b → wx.heap.size ≤ b)
  (hp : NodeIn d (fun b => C ≤ b ∧ b < wx.heap.size ∧ vi.ownBlock ≠ some b ∧ vn.ownBlock ≠ some b) wx cs x) :
  NSt TN TS d w (wn.setCell ⟨nb, 5, none⟩ vi') g nb C k vn vi' ns (A ++ [(cs, x)]) := by
 obtain ⟨l1, l2, l3, l4⟩ := h.lo
 have hne : ∀ i, i ≠ nb → (wn.setCell ⟨nb, 5, none⟩ vi').heap[i]? = wn.heap[i]? := fun i hi => heap_setCell_other wn ⟨nb, 5, none⟩ i _ hi
 have hsz : (wn.setCell ⟨nb, 5, none⟩ vi').heap.size = wn.heap.size := by simp
 have hgs := grown_set wn nb 5 vi'
 refine ⟨(hne _ (by omega)).trans ((h.apart (.inr rfl) hg _ (by omega)).trans h.res), six_set5 ((h.apart (.inr rfl) hg nb l3).trans h.nod) vi', ⟨l1, l2, l3, by rw [hsz]; exact Nat.le_trans l4 hg.size⟩, ?_, ?_, ?_⟩
 ·refine (h.names.kept hg ?_).kept hgs ?_
  ·cases e : vn.ownBlock with
   | none => exact .inl rfl
   | some b => exact .inr (fun e' => h.items.2.1 b e e'.symm)
  ·cases e : vn.ownBlock with
   | none => exact .inl rfl
   | some b => exact .inr (fun e' => by cases e'; have := (h.names.1.lt _ e).1; omega)
 ·exact (h.items.push hown hg hat (fun b e => (h.names.1.lt b e).2) hp).kept hgs (fun r e => by cases e; exact .inl l3) (.inl rfl)
 ·have h2 := h.gro2 (.inr rfl) hg
  exact ⟨h2.os, h2.tape, h2.output, by rw [hsz]; exact h2.size, fun i hi hn => (hne i (by omega)).trans (h2.block i hi hn)⟩
theorem NSt.dice {B : Nat} (h : NSt TN TS d w wx g nb C k vn vi ns A) {row : Option Nat} (hr : row = vn.ownBlock ∨ row = vi.ownBlock) (hd : DiceAt B wx g) (hg : wx.grownBy wn row) (o : Nat) (v : Value) : DiceAt B (wn.setCell ⟨nb, o, none⟩ v) g := by
 obtain ⟨l1, l2, l3, l4⟩ := h.lo
 exact DiceAt.setNew (hd.same fun j hj => h.apart hr hg j (by omega)) (by omega) _ _
/-- The start: two new blocks, nothing in them. -/
theorem NSt.begin (hres : wx.heap[w.heap.size]? = some (.cells #[.int .i64 0, .bool false, .int .i64 0, .string ⟨#[]⟩, .slice none 0 0, .slice none 0 0] TN (0, 0))) (hnod : wx.heap[nb]? = some (.cells #[.int .i64 k, .bool false, .int .i64 0, .string ⟨#[]⟩, .slice none 0 0, .slice none 0 0] TN (0, 0)))
  (l1 : g < w.heap.size) (l2 : w.heap.size < nb) (hg : w.grownBy wx (some g)) : NSt TN TS d w wx g nb wx.heap.size k (.slice none 0 0) (.slice none 0 0) [] [] :=
 ⟨hres, hnod, ⟨l1, l2, lt_of_block hnod, Nat.le_refl _⟩, SRow.nil _ _ _, NRow.nil _ _ _ _ _, hg⟩
/-- What has been built is a node. -/
theorem NSt.node (h : NSt TN TS d w wx g nb C k vn vi ns A) : NodeIn (d + 1) (fun b => w.heap.size < b ∧ b < wx.heap.size) wx [.int .i64 k, .bool false, .int .i64 0, .string ⟨#[]⟩, vn, vi] (.mk k false 0 ⟨#[]⟩ ns (nodesOf A)) := by
 obtain ⟨l1, l2, l3, l4⟩ := h.lo
 exact ⟨vn, vi, rfl, (show (0 : Nat) ≤ maxLen - 2 from Nat.zero_le _), h.names.strs.mono fun b hb => ⟨by omega, hb.2⟩, h.items.nodes.mono (fun b hb => ⟨by omega, hb.2⟩) fun cs x q => q.mono fun b hb => ⟨by omega, hb.2⟩⟩
end
theorem NodeIn.one {d : Nat} {S : Nat → Prop} {w : World} {cs : List Value} {x : ND} (h : NodeIn d S w cs x) : ∀ u ∈ cs, u.oneCell' = true := by
 cases d with
 | zero => exact h.elim
 | succ d =>
  obtain ⟨va, vb, rfl, _, ⟨a1, c1, rfl, _⟩, ⟨a2, c2, rfl, _⟩⟩ := h
  intro u hu
  simp only [List.mem_cons, List.not_mem_nil, or_false] at hu
  rcases hu with rfl | rfl | rfl | rfl | rfl | rfl <;> rfl
/-- A node that a call has made since, now beside a row under construction. -/
theorem NSt.fresh {TN TS : TypeId} {d : Nat} {w wx w6 w7 : World} {g nb C : Nat} {k : Int} {vn vi : Value} {ns : List ByteArray} {A : List NC} {cs : List Value} {x : ND}
  (h : NSt TN TS d w wx g nb C k vn vi ns A) (hx : NodeIn d (fun b => wx.heap.size ≤ b ∧ b < w6.heap.size) w6 cs x) (hg : Below w6.heap.size w6 w7) :
  NodeIn d (fun b => C ≤ b ∧ b < w7.heap.size ∧ vi.ownBlock ≠ some b ∧ vn.ownBlock ≠ some b) w7 cs x := by
 obtain ⟨l1, l2, l3, l4⟩ := h.lo
 refine (hx.same (w' := w7) fun b hb => hg.block b hb.2).mono fun b hb => ⟨by omega, Nat.lt_of_lt_of_le hb.2 hg.size, fun e => ?_, fun e => ?_⟩
 ·have := (h.items.1.lt b e).2; omega
 ·have := (h.names.1.lt b e).2; omega
/-- Where an append's slice lies. -/
theorem own_at {v : Value} {gg m cc H : Nat} (h : v.ownBlock = some gg ∨ gg = H) : (Value.slice (some ⟨gg, 0, none⟩) m cc).ownBlock = v.ownBlock ∨ ∀ b, (Value.slice (some ⟨gg, 0, none⟩) m cc).ownBlock = some b → H ≤ b := by
 rcases h with h | h
 ·exact .inl h.symm
 ·exact .inr fun b hb => by
   have : gg = b := by simpa [Value.ownBlock] using hb
   omega
theorem own_lt {w : World} {C e size n : Nat} {v : Value} {xs : List Value} (h : w.ownsRow C e size v n xs) {b : Nat} (hb : w.heap.size ≤ b) : v.ownBlock ≠ some b := fun e' => by have := (h.lt b e').2; omega
/-- Some node that is valid and at most d deep, in blocks of its own. -/
def SomeNode (d : Nat) (w : World) (e : Ending) (w' : World) : Prop :=
 ∃ cs x, e = .returned (.agg cs.toArray) ∧ NodeIn d (fun b => w.heap.size ≤ b ∧ b < w'.heap.size) w' cs x ∧ validK d x = true

theorem NSt.viForm {TN TS : TypeId} {d : Nat} {w wx : World} {g nb C : Nat} {k : Int} {vn vi : Value} {ns : List ByteArray} {A : List NC} (h : NSt TN TS d w wx g nb C k vn vi ns A) : ∃ ai ci, vi = .slice ai A.length ci := by
 obtain ⟨a, c, e, _⟩ := h.items.nodes
 exact ⟨a, c, by rw [e, nodesOf, List.length_map]⟩
theorem NSt.vnForm {TN TS : TypeId} {d : Nat} {w wx : World} {g nb C : Nat} {k : Int} {vn vi : Value} {ns : List ByteArray} {A : List NC} (h : NSt TN TS d w wx g nb C k vn vi ns A) : ∃ an cn, vn = .slice an ns.length cn := by
 obtain ⟨a, c, e, _⟩ := h.names.strs
 exact ⟨a, c, e⟩
/-- The length of the slice that a cell holds. -/
def lenAt (w : World) (b o : Nat) : Nat := match w.cell? ⟨b, o, none⟩ with
 | some (.slice _ l _) => l
 | _ => 0
theorem NSt.len {TN TS : TypeId} {d : Nat} {w wx : World} {g nb C : Nat} {k : Int} {vn vi : Value} {ns : List ByteArray} {A : List NC} (h : NSt TN TS d w wx g nb C k vn vi ns A) : lenAt wx nb 5 = A.length := by
 obtain ⟨ai, ci, rfl⟩ := h.viForm
 unfold lenAt
 rw [(six_of h.nod).2.2.2.2.2]
/-- The finished node is stored into the result's block. -/
theorem NSt.done {TN TS : TypeId} {d : Nat} {w wx : World} {g nb C : Nat} {k : Int} {vn vi : Value} {ns : List ByteArray} {A : List NC} (h : NSt TN TS d w wx g nb C k vn vi ns A) :
  NodeIn (d + 1) (fun b => w.heap.size ≤ b ∧ b < (set6 wx w.heap.size (.int .i64 k) (.bool false) (.int .i64 0) (.string ⟨#[]⟩) vn vi).heap.size) (set6 wx w.heap.size (.int .i64 k) (.bool false) (.int .i64 0) (.string ⟨#[]⟩) vn vi) [.int .i64 k, .bool false, .int .i64 0, .string ⟨#[]⟩, vn, vi] (.mk k false 0 ⟨#[]⟩ ns (nodesOf A))
  ∧ w.grownBy (set6 wx w.heap.size (.int .i64 k) (.bool false) (.int .i64 0) (.string ⟨#[]⟩) vn vi) (some g) ∧ ∀ B, DiceAt B wx g → DiceAt B (set6 wx w.heap.size (.int .i64 k) (.bool false) (.int .i64 0) (.string ⟨#[]⟩) vn vi) g := by
 obtain ⟨l1, l2, l3, l4⟩ := h.lo
 have hgs := grown_set6 wx w.heap.size (.int .i64 k) (.bool false) (.int .i64 0) (.string ⟨#[]⟩) vn vi
 refine ⟨?_, ?_, fun B hd => ?_⟩
 ·exact (h.node.same fun b hb => hgs.block b hb.2 (by intro e; have := Option.some.inj e; omega)).mono fun b hb => ⟨by omega, Nat.lt_of_lt_of_le hb.2 hgs.size⟩
 ·have := h.gro
  exact ⟨hgs.os.trans this.os, hgs.tape.trans this.tape, hgs.output.trans this.output, Nat.le_trans this.size hgs.size, fun i hi hn => (hgs.block i (Nat.lt_of_lt_of_le hi this.size) (by intro e; have := Option.some.inj e; omega)).trans (this.block i hi hn)⟩
 ·exact hd.same fun q hq => hgs.block q (by omega) (by intro e; have := Option.some.inj e; omega)
/-- A leaf is stored into the result's block. -/
theorem leaf_done {n B g : Nat} {w wx : World} (hn : 1 ≤ n) (hg : g < w.heap.size) (hgr : w.grownBy wx (some g)) (hd : DiceAt B wx g) (k : Int) (b : Bool) (z : Int) (t : ByteArray) (ht : t.size ≤ maxLen - 2) (hv : validK n (.mk k b z t [] []) = true) :
  SomeNode n w (.returned (.agg #[.int .i64 k, .bool b, .int .i64 z, .string t, .slice none 0 0, .slice none 0 0])) (set6 wx w.heap.size (.int .i64 k) (.bool b) (.int .i64 z) (.string t) (.slice none 0 0) (.slice none 0 0))
  ∧ w.grownBy (set6 wx w.heap.size (.int .i64 k) (.bool b) (.int .i64 z) (.string t) (.slice none 0 0) (.slice none 0 0)) (some g) ∧ DiceAt B (set6 wx w.heap.size (.int .i64 k) (.bool b) (.int .i64 z) (.string t) (.slice none 0 0) (.slice none 0 0)) g := by
 have hgs := grown_set6 wx w.heap.size (.int .i64 k) (.bool b) (.int .i64 z) (.string t) (.slice none 0 0) (.slice none 0 0)
 refine ⟨⟨[.int .i64 k, .bool b, .int .i64 z, .string t, .slice none 0 0, .slice none 0 0], _, rfl, (node_leaf _ _ k b z t ht).deeper hn, hv⟩, ?_, ?_⟩
 ·exact ⟨hgs.os.trans hgr.os, hgs.tape.trans hgr.tape, hgs.output.trans hgr.output, Nat.le_trans hgr.size hgs.size, fun i hi hn => (hgs.block i (Nat.lt_of_lt_of_le hi hgr.size) (by intro e; have := Option.some.inj e; omega)).trans (hgr.block i hi hn)⟩
 ·exact hd.same fun q hq => hgs.block q (by have := hd.lt; omega) (by intro e; have := Option.some.inj e; omega)
/-- Some map that is valid, at most d deep, with at most three items; all numbers are what an int holds; it is not too costly. -/
def SomeMapK (d : Nat) (w : World) (e : Ending) (w' : World) : Prop :=
 ∃ cs x, e = .returned (.agg cs.toArray) ∧ NodeIn d (fun b => w.heap.size ≤ b ∧ b < w'.heap.size) w' cs x ∧ MapOk (d - 1) x ∧ x.items.length ≤ 3 ∧ (∀ y, y ∈ x.items → validK (d - 1) y = true) ∧ costN d x ≤ bndN d

end Go.Proofs.YtmlmdidaldcoiaaGreatDoor
/- The names that the kit's Node gives out: a word and two digits that tell the place. No program. -/
namespace Go.Proofs.YtmlmdidaldcoiaaGreatDoor
set_option linter.unusedVariables false

def nmW : List ByteArray := [⟨#[97]⟩, ⟨#[98]⟩, ⟨#[118]⟩, ⟨#[100]⟩, ⟨#[]⟩]
theorem nmW_ok : ∀ s, s ∈ nmW → s.size ≤ 1 ∧ Lib.validD s.data.toList = true := by decide +kernel
def twoD (i : Nat) : List UInt8 := [UInt8.ofNat (48 + i % 10), UInt8.ofNat (48 + i / 10)]
def NameOf (i : Nat) (s : ByteArray) : Prop := ∃ u ∈ nmW, s = u ++ ⟨(twoD i).toArray⟩
theorem twoD_ok : ∀ i, i < 100 → Lib.validD (twoD i) = true := by
 have : ∀ i : Fin 100, Lib.validD (twoD i.1) = true := by decide +kernel
 exact fun i hi => this ⟨i, hi⟩
theorem twoD_ne {i j : Nat} (hi : i < 100) (hj : j < 100) (h : twoD i = twoD j) : i = j := by
 simp only [twoD, List.cons.injEq, and_true] at h
 obtain ⟨h1, h2⟩ := h
 have e1 := congrArg UInt8.toNat h1
 have e2 := congrArg UInt8.toNat h2
 simp only [UInt8.toNat_ofNat'] at e1 e2
 omega
theorem name_ok {i : Nat} {s : ByteArray} (hi : i < 100) (h : NameOf i s) : textOk s = true ∧ s.size ≤ 3 := by
 obtain ⟨u, hu, rfl⟩ := h
 obtain ⟨h1, h2⟩ := nmW_ok u hu
 have hs : (u ++ (⟨(twoD i).toArray⟩ : ByteArray)).size ≤ 3 := by
  rw [ByteArray.size_append]
  show u.size + 2 ≤ 3
  omega
 refine ⟨?_, hs⟩
 unfold textOk
 rw [valid_app h2 (twoD_ok i hi), decide_eq_true (show (u ++ (⟨(twoD i).toArray⟩ : ByteArray)).size ≤ 65536 by omega)]
 rfl
theorem name_ne {i j : Nat} {s : ByteArray} (hi : i < 100) (hj : j < 100) (h : NameOf i s) (k : NameOf j s) : i = j := by
 obtain ⟨u, hu, rfl⟩ := h
 obtain ⟨v, hv, e⟩ := k
 have e' := congrArg (fun x : ByteArray => x.data.toList) e
 simp only [ByteArray.toList_data_append] at e'
 exact twoD_ne hi hj (List.append_inj_right' e' rfl)
def NamesOf (ns : List ByteArray) : Prop := ∀ i s, ns[i]? = some s → NameOf i s
theorem NamesOf.push {ns : List ByteArray} {s : ByteArray} (h : NamesOf ns) (hs : NameOf ns.length s) : NamesOf (ns ++ [s]) := by
 intro i t ht
 rcases Nat.lt_or_ge i ns.length with hi | hi
 ·rw [List.getElem?_append_left hi] at ht; exact h i t ht
 ·rw [List.getElem?_append_right hi] at ht
  have : i - ns.length = 0 := by
   rcases Nat.eq_zero_or_pos (i - ns.length) with h0 | h0
   ·exact h0
   ·rw [List.getElem?_eq_none (by simp; omega)] at ht; cases ht
  rw [this] at ht
  obtain rfl : s = t := by simpa using ht
  obtain rfl : i = ns.length := by omega
  exact hs
theorem NamesOf.nodup {ns : List ByteArray} (h : NamesOf ns) (hl : ns.length ≤ 100) : ns.Nodup := by
 rw [List.nodup_iff_pairwise_ne, List.pairwise_iff_getElem]
 intro i j hi hj hij e
 have := name_ne (by omega) (by omega) (h i _ (List.getElem?_eq_getElem hi)) (h j _ (by rw [List.getElem?_eq_getElem hj, e]))
 omega
theorem NamesOf.texts {ns : List ByteArray} (h : NamesOf ns) (hl : ns.length ≤ 100) : ∀ s, s ∈ ns → textOk s = true := by
 intro s hs
 obtain ⟨i, hi, rfl⟩ := List.getElem_of_mem hs
 exact (name_ok (by omega) (h i _ (List.getElem?_eq_getElem hi))).1
/-- A list or map that has been built so is valid. -/
theorem built_valid0 {n : Nat} {k : Int} {ns : List ByteArray} {its : List ND} (hn : 1 ≤ n) (hk : k = 4 ∧ ns = [] ∨ k = 5 ∧ ns.length = its.length ∧ NamesOf ns) (hl : its.length ≤ 50) (hv : ∀ y, y ∈ its → validN (n - 1) y = true) : validN n (.mk k false 0 ⟨#[]⟩ ns its) = true := by
 obtain ⟨m, rfl⟩ : ∃ m, n = m + 1 := ⟨n - 1, by omega⟩
 rw [Nat.add_sub_cancel] at hv
 have ht : textOk ⟨#[]⟩ = true := by decide
 rcases hk with ⟨rfl, rfl⟩ | ⟨rfl, h1, h2⟩
 ·rw [validN_succ, Bool.and_eq_true, List.all_eq_true]
  refine ⟨?_, hv⟩
  unfold flatOk
  simp [ND.kind, ND.bool, ND.num, ND.text, ND.items, ND.names, ht]
  exact decide_eq_true (by omega)
 ·rw [mapOk_iff rfl]
  exact ⟨rfl, rfl, rfl, rfl, h1, by show its.length ≤ 256; omega, h2.texts (by omega), h2.nodup (by omega), hv⟩
/-- A node that has no items and no names. -/
theorem leaf_valid {n : Nat} (hn : 1 ≤ n) (k : Int) (b : Bool) (z : Int) (t : ByteArray) (h : flatOk (.mk k b z t [] []) = true) (hw : wideI z = true) (ht : t.size ≤ 300) : validK n (.mk k b z t [] []) = true := by
 obtain ⟨m, rfl⟩ : ∃ m, n = m + 1 := ⟨n - 1, by omega⟩
 refine validK_mk (validW_mk ?_ hw (fun y hy => by cases hy)) ?_
 ·rw [validN_succ, h]
  rfl
 ·have := bndN_1 hn
  rw [costN_succ]
  show 24 + 6 * t.size + 0 + 0 ≤ _
  omega
theorem built_valid {n : Nat} {k : Int} {ns : List ByteArray} {its : List ND} (hn : 1 ≤ n) (hk : k = 4 ∧ ns = [] ∨ k = 5 ∧ ns.length = its.length ∧ NamesOf ns) (hl : its.length ≤ 20) (hv : ∀ y, y ∈ its → validK (n - 1) y = true) (hc : costs (n - 1) its ≤ 3 * (bndN (n - 1) + 1) + 25 * its.length) : validK n (.mk k false 0 ⟨#[]⟩ ns its) = true := by
 have h := built_valid0 hn hk (by omega) (fun y hy => validK_valid (hv y hy))
 obtain ⟨m, rfl⟩ : ∃ m, n = m + 1 := ⟨n - 1, by omega⟩
 refine validK_mk (validW_mk h (show wideI 0 = true by decide) fun y hy => validK_w (hv y hy)) ?_
 rw [Nat.add_sub_cancel] at hc
 have hns : (ns.map fun s => 6 * s.size + 8).sum ≤ 520 := by
  rcases hk with ⟨-, rfl⟩ | ⟨-, h1, h2⟩
  ·exact Nat.zero_le _
  ·refine Nat.le_trans (sum_le (c := 26) fun s hs => ?_) (by omega)
   obtain ⟨i, hi, rfl⟩ := List.getElem_of_mem hs
   have := (name_ok (by omega) (h2 i _ (List.getElem?_eq_getElem hi))).2
   omega
 unfold costs at hc
 rw [costN_succ, bndN_succ]
 show 24 + 6 * 0 + (ns.map fun s => 6 * s.size + 8).sum + (its.map fun y => costN m y + 1).sum ≤ _
 omega
theorem wideI_of {z : Int} (h0 : -9223372036854775808 ≤ z) (h1 : z ≤ 9223372036854775807) : wideI z = true := by
 unfold wideI; rw [decide_eq_true h0, decide_eq_true h1]; rfl
end Go.Proofs.YtmlmdidaldcoiaaGreatDoor
