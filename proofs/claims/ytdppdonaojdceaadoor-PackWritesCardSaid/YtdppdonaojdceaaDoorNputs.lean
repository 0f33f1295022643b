/- Get, on a map with as many names as items. Then: The walk of the statement NodePuts. -/
import Derived.Test.YtdppdonaojdceaaDoorNawk
import Derived.Test.YtdppdonaojdceaaDoorNkn
namespace Go.Proofs.YtdppdonaojdceaaDoor
open Go Go.ChangeShapes Go.WideShapes Go.ChangeAt Go.RowKit
set_option linter.unusedVariables false
set_option linter.unusedSimpArgs false

/-- What Get hands out: a node in new blocks, or the zero node. -/
def GetNew (d : Nat) (w : World) (o : Option ND) (e : Ending) (w' : World) : Prop := ∃ cs : List Value, e = .returned (.tuple #[.agg cs.toArray, .bool o.isSome]) ∧ NodeIn (d + 1) (Fr w.heap.size w') w' cs (o.getD nd0) ∧ Below w.heap.size w w'
end Go.Proofs.YtdppdonaojdceaaDoor

namespace Go.Proofs.YtdppdonaojdceaaDoor
open Go Go.ChangeShapes Go.WideShapes Go.ChangeAt Go.RowKit
set_option linter.unusedVariables false
set_option linter.unusedSimpArgs false

/-- A block that holds a node. -/
structure Hel (TN : TypeId) (d : Nat) (wx : World) (b : Nat) (cs : List Value) (x : ND) : Prop where
  blk : wx.heap[b]? = some (.cells cs.toArray TN (0, 0))
  nod : NodeIn d (fun b => b < wx.heap.size) wx cs x
theorem Hel.below {TN : TypeId} {d b : Nat} {wx wn : World} {cs : List Value} {x : ND} (h : Hel TN d wx b cs x) (hb : Below wx.heap.size wx wn) : Hel TN d wn b cs x :=
  ⟨(hb.block b (lt_of_block h.blk)).trans h.blk, (h.nod.same fun b hb' => hb.block b hb').mono fun b hb' => Nat.lt_of_lt_of_le hb' hb.size⟩
theorem MapOk.mono {d d' : Nat} {x : ND} (h : MapOk d x) (hd : d ≤ d') : MapOk d' x := { h with items := fun y hy => validN_mono hd (h.items y hy) }
theorem NodeIn.lens {d : Nat} {S : Nat → Prop} {w : World} {k b z t : Value} {a a' : Option Addr} {l c l' c' : Nat} {x : ND} (h : NodeIn d S w [k, b, z, t, .slice a l c, .slice a' l' c'] x) : l = x.names.length ∧ l' = x.items.length := by
  cases d with
  | zero => exact h.elim
  | succ d =>
    obtain ⟨vn, vi, e, -, ⟨_, _, e1, -⟩, ⟨_, _, e2, -⟩⟩ := h
    simp only [List.cons.injEq, and_true] at e
    obtain ⟨-, -, -, -, rfl, rfl⟩ := e
    cases e1; cases e2
    exact ⟨rfl, rfl⟩
theorem NodeIn.parts {d : Nat} {S : Nat → Prop} {w : World} {k b z t : Value} {a a' : Option Addr} {l c l' c' : Nat} {x : ND} (h : NodeIn (d + 1) S w [k, b, z, t, .slice a l c, .slice a' l' c'] x) : StrsIn S w (.slice a l c) x.names ∧ NodesIn (NodeIn d S w) S w (.slice a' l' c') x.items := by
  obtain ⟨vn, vi, e, -, h1, h2⟩ := h
  simp only [List.cons.injEq, and_true] at e
  obtain ⟨-, -, -, -, rfl, rfl⟩ := e
  exact ⟨h1, h2⟩
theorem nod_grown {d g : Nat} {w w' : World} {cs : List Value} {x : ND} (h : NodeIn d (fun b => g < b ∧ b < w.heap.size) w cs x) (hg : w.grownBy w' (some g)) : NodeIn d (fun b => g < b ∧ b < w'.heap.size) w' cs x :=
  (h.same fun b hb => hg.block b hb.2 (by intro e; have := Option.some.inj e; have := hb.1; omega)).mono fun b hb => ⟨hb.1, Nat.lt_of_lt_of_le hb.2 hg.size⟩
end Go.Proofs.YtdppdonaojdceaaDoor
