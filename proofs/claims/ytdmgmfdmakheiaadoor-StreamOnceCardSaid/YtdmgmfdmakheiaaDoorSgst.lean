/- What the document's Group holds while it reads: its two blocks, and the primitives that it has gathered. -/
import Derived.Test.YtdmgmfdmakheiaaDoorSgrp
namespace Go.Proofs.YtdmgmfdmakheiaaDoor
open Go Go.RowKit
set_option linter.unusedVariables false
set_option linter.unusedSimpArgs false

/-- The cells of primitives. -/
def primCells (l : List Prim) : List Value := l.flatMap fun x => [.int .i64 x.1, .string x.2]
theorem primCells_length (l : List Prim) : (primCells l).length = l.length * 2 := by
  induction l with
  | nil => rfl
  | cons x t ih =>
    have : (primCells (x :: t)).length = 2 + (primCells t).length := by simp [primCells]; omega
    rw [this, ih, List.length_cons]; omega
theorem primCells_append (a b : List Prim) : primCells (a ++ b) = primCells a ++ primCells b := by simp [primCells]
theorem primCells_at : ∀ {l : List Prim} {j : Nat} {c : Int} {r : ByteArray}, l[j]? = some (c, r) → (primCells l)[j * 2]? = some (.int .i64 c) ∧ (primCells l)[j * 2 + 1]? = some (.string r)
  | [], _, _, _, h => by simp at h
  | x :: t, 0, c, r, h => by
    simp at h
    subst h
    exact ⟨rfl, rfl⟩
  | x :: t, j + 1, c, r, h => by
    obtain ⟨h1, h2⟩ := primCells_at (l := t) (j := j) (by simpa using h)
    have e : primCells (x :: t) = .int .i64 x.1 :: .string x.2 :: primCells t := by simp [primCells]
    rw [e, show (j + 1) * 2 = j * 2 + 1 + 1 by omega, show j * 2 + 1 + 1 + 1 = (j * 2 + 1) + 1 + 1 by omega]
    exact ⟨by simpa using h1, by simpa using h2⟩
/-- A slice that the call owns, read as primitives. -/
theorem prims_of_owns {w : World} {base n : Nat} {T : TypeId} {v : Value} {l : List Prim} (h : w.ownsRow base T 2 v n (primCells l)) (hr : ∀ x, x ∈ l → x.2.size ≤ maxLen - 2) : PrimsAt w.heap.size w v l := by
  have hn : n = l.length := by have := h.1; rw [primCells_length] at this; omega
  rcases h.2 with ⟨rfl, h0⟩ | ⟨g, cap, cur, rfl, hb, hg, hnc, hcm, hcs, hcu⟩
  · have hl : l.length = 0 := by omega
    refine ⟨none, 0, by rw [hl], by omega, Nat.zero_le _, fun j hj => absurd hj (by omega)⟩
  · subst hn
    refine ⟨_, cap, rfl, hnc, hcm, fun j hj => ?_⟩
    have e : l[j]? = some (l[j].1, l[j].2) := by rw [List.getElem?_eq_getElem hj]
    obtain ⟨h1, h2⟩ := primCells_at e
    have hlt : g < w.heap.size := by
      rcases Nat.lt_or_ge g w.heap.size with h' | h'
      · exact h'
      · rw [Array.getElem?_eq_none h'] at hg; cases hg
    refine ⟨g, 0, _, _, e, rfl, hlt, ?_, ?_, hr _ (List.getElem_mem hj)⟩
    · have := h.cells (g := g) rfl _ _ h1
      rw [Addr.add_lit] at this; exact this
    · have := h.cells (g := g) rfl _ _ h2
      rw [Addr.add_lit, ← Nat.add_assoc] at this; exact this

/-- The state of a reading: r the block of the result, g that of the group. -/
def GSt (T TP : TypeId) (w wr : World) (g : Nat) (k : Int) (v : Value) (acc : List Prim) : Prop :=
  Below w.heap.size w wr ∧ w.heap.size < g ∧ g < wr.heap.size ∧ wr.heap[w.heap.size]? = some (.cells #[.int .i64 0, .slice none 0 0] T (0, 0)) ∧ wr.heap[g]? = some (.cells #[.int .i64 k, v] T (0, 0)) ∧ wr.ownsRow (g + 1) TP 2 v acc.length (primCells acc) ∧ ∀ x, x ∈ acc → x.2.size ≤ maxLen - 2
theorem GSt.below {T TP : TypeId} {w wr wn : World} {g : Nat} {k : Int} {v : Value} {acc : List Prim} (h : GSt T TP w wr g k v acc) (hb : Below wr.heap.size wr wn) : GSt T TP w wn g k v acc := by
  obtain ⟨h1, h2, h3, h4, h5, h6, h7⟩ := h
  refine ⟨h1.trans (hb.mono h1.size), h2, Nat.lt_of_lt_of_le h3 hb.size, keepB hb (by omega) h4, keepB hb h3 h5, ?_, h7⟩
  have hg : wr.grownBy wn none := ⟨hb.os, hb.tape, hb.output, hb.size, fun i hi _ => hb.block i hi⟩
  refine h6.kept hg ?_
  cases e : v.ownBlock with
  | none => exact .inl rfl
  | some b => exact .inr (by simp)
theorem GSt.drewN {T TP : TypeId} {w wr : World} {g : Nat} {k : Int} {v : Value} {acc : List Prim} (h : GSt T TP w wr g k v acc) (n : Nat) : GSt T TP w (wr.drewN n) g k v acc :=
  h.below (belowQ (Below.refl _ _) n)
theorem GSt.start {T TP : TypeId} {w wr : World} {g : Nat} {k : Int} (hbl : Below w.heap.size w wr) (hg : w.heap.size < g) (hs : g < wr.heap.size) (h0 : wr.heap[w.heap.size]? = some (.cells #[.int .i64 0, .slice none 0 0] T (0, 0))) (h1 : wr.heap[g]? = some (.cells #[.int .i64 k, .slice none 0 0] T (0, 0))) : GSt T TP w wr g k (.slice none 0 0) [] :=
  ⟨hbl, hg, hs, h0, h1, World.ownsRow_nil wr _ _ _, fun x hx => by cases hx⟩
/-- One primitive more: the append has left w2, and the slice is stored. -/
theorem GSt.push {T TP : TypeId} {w wr w2 : World} {g : Nat} {k : Int} {v v' : Value} {acc : List Prim} {c : Int} {r : ByteArray} (h : GSt T TP w wr g k v acc) (hr : r.size ≤ maxLen - 2)
    (hown : w2.ownsRow (g + 1) TP 2 v' (acc.length + 1) (primCells acc ++ [.int .i64 c, .string r])) (hg : wr.grownBy w2 v.ownBlock) : GSt T TP w (w2.setCell ⟨g, 1, none⟩ v') g k v' (acc ++ [(c, r)]) := by
  obtain ⟨h1, h2, h3, h4, h5, h6, h7⟩ := h
  have hob : ∀ b, v.ownBlock = some b → g + 1 ≤ b := fun b e => (h6.lt b e).1
  have h1' : Below w.heap.size w w2 := h1.grown hg h1.size (fun b e => by have := hob b e; omega)
  have k4 : w2.heap[w.heap.size]? = some (.cells #[.int .i64 0, .slice none 0 0] T (0, 0)) := (hg.block _ (by omega) (by intro e; have := hob _ e.symm; omega)).trans h4
  have k5 : w2.heap[g]? = some (.cells #[.int .i64 k, v] T (0, 0)) := (hg.block _ h3 (by intro e; have := hob _ e.symm; omega)).trans h5
  have hsz : (w2.setCell ⟨g, 1, none⟩ v').heap.size = w2.heap.size := by simp
  refine ⟨h1'.setCell (Nat.le_of_lt h2) _, h2, by rw [hsz]; exact Nat.lt_of_lt_of_le h3 hg.size, ?_, two_set1 k5 v', ?_, ?_⟩
  · exact (heap_setCell_other w2 ⟨g, 1, none⟩ w.heap.size v' (by dsimp only; omega)).trans k4
  · have hgs : w2.grownBy (w2.setCell ⟨g, 1, none⟩ v') (some g) := ⟨rfl, rfl, rfl, by rw [hsz]; exact Nat.le_refl _, fun i hi hne => heap_setCell_other w2 ⟨g, 1, none⟩ i v' (by dsimp only; intro e; exact hne (by rw [e]))⟩
    have hp := hown.kept hgs (.inr (by intro e; have := (hown.lt g e).1; omega))
    rw [List.length_append, primCells_append]
    exact hp
  · intro x hx
    rcases List.mem_append.1 hx with hx | hx
    · exact h7 x hx
    · cases List.mem_singleton.1 hx
      exact hr

/-- The group is stored as the result. -/
theorem GSt.final {T TP : TypeId} {w wr : World} {g : Nat} {k : Int} {v : Value} {acc : List Prim} (h : GSt T TP w wr g k v acc) :
    PrimsAt ((wr.setCell ⟨w.heap.size, 0, none⟩ (.int .i64 k)).setCell ⟨w.heap.size, 1, none⟩ v).heap.size ((wr.setCell ⟨w.heap.size, 0, none⟩ (.int .i64 k)).setCell ⟨w.heap.size, 1, none⟩ v) v acc ∧ Below w.heap.size w ((wr.setCell ⟨w.heap.size, 0, none⟩ (.int .i64 k)).setCell ⟨w.heap.size, 1, none⟩ v) := by
  obtain ⟨h1, h2, h3, h4, h5, h6, h7⟩ := h
  refine ⟨prims_of_owns (base := g + 1) (n := acc.length) (T := TP) ?_ h7, (h1.setCell (Nat.le_refl _) _).setCell (Nat.le_refl _) _⟩
  have hg : wr.grownBy ((wr.setCell ⟨w.heap.size, 0, none⟩ (.int .i64 k)).setCell ⟨w.heap.size, 1, none⟩ v) (some w.heap.size) :=
    ⟨rfl, rfl, rfl, by simp, fun i hi hne => by
      have hn : i ≠ w.heap.size := fun e => hne (by rw [e])
      rw [heap_setCell_other _ ⟨w.heap.size, 1, none⟩ i v hn, heap_setCell_other _ ⟨w.heap.size, 0, none⟩ i _ hn]⟩
  exact h6.kept hg (.inr (by intro e; have := (h6.lt _ e).1; omega))

end Go.Proofs.YtdmgmfdmakheiaaDoor
