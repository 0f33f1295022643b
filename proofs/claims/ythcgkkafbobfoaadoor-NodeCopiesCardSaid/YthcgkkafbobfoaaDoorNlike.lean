/- Writes that keep what kind of value each cell holds; writes into one block. For every program. -/
import Derived.Test.YthcgkkafbobfoaaDoorNputs
namespace Go.Proofs.YthcgkkafbobfoaaDoor
open Go Go.ChangeShapes Go.WideShapes Go.ChangeAt Go.RowKit
set_option linter.unusedVariables false
set_option linter.unusedSimpArgs false

/-- The same value, or two strings, or two whole numbers. -/
def alike (u v : Value) : Prop := u = v ∨ (∃ s t, u = .string s ∧ v = .string t) ∨ (∃ a b, u = .int .i64 a ∧ v = .int .i64 b)
theorem alike.trans {u v x : Value} (h : alike u v) (k : alike v x) : alike u x := by
  rcases h with rfl | ⟨s, t, rfl, rfl⟩ | ⟨s, t, rfl, rfl⟩
  · exact k
  · rcases k with rfl | ⟨a, b, h, rfl⟩ | ⟨a, b, h, rfl⟩
    · exact .inr (.inl ⟨_, _, rfl, rfl⟩)
    · exact .inr (.inl ⟨_, _, rfl, rfl⟩)
    · cases h
  · rcases k with rfl | ⟨a, b, h, rfl⟩ | ⟨a, b, h, rfl⟩
    · exact .inr (.inr ⟨_, _, rfl, rfl⟩)
    · cases h
    · exact .inr (.inr ⟨_, _, rfl, rfl⟩)
theorem alike.slice {a : Option Addr} {l c : Nat} {v : Value} (h : alike (.slice a l c) v) : v = .slice a l c := by
  rcases h with rfl | ⟨s, t, h, _⟩ | ⟨s, t, h, _⟩
  · rfl
  · cases h
  · cases h
theorem alike.str {s : ByteArray} {v : Value} (h : alike (.string s) v) : ∃ t, v = .string t := by
  rcases h with rfl | ⟨s, t, _, rfl⟩ | ⟨s, t, h, _⟩
  · exact ⟨_, rfl⟩
  · exact ⟨_, rfl⟩
  · cases h
theorem alike.int {z : Int} {v : Value} (h : alike (.int .i64 z) v) : ∃ t, v = .int .i64 t := by
  rcases h with rfl | ⟨s, t, h, _⟩ | ⟨s, t, _, rfl⟩
  · exact ⟨_, rfl⟩
  · cases h
  · exact ⟨_, rfl⟩
/-- What has been written lies from P on and is of the kind that was there. -/
def Like (P : Nat) (w w' : World) : Prop := Below P w w' ∧ ∀ (b : Nat) (cs : Array Value) (T : TypeId), w.heap[b]? = some (Obj.cells cs T (0, 0)) → ∃ cs' : Array Value, w'.heap[b]? = some (Obj.cells cs' T (0, 0)) ∧ cs'.size = cs.size ∧ ∀ (i : Nat) (u : Value), cs.toList[i]? = some u → ∃ u', cs'.toList[i]? = some u' ∧ alike u u'
theorem Like.refl (P : Nat) (w : World) : Like P w w := ⟨Below.refl _ _, fun b cs T h => ⟨cs, h, rfl, fun i u hu => ⟨u, hu, .inl rfl⟩⟩⟩
theorem Like.cell {P : Nat} {w w' : World} (h : Like P w w') {b o : Nat} {u : Value} (hp : PlainB w b) (hc : w.cell? ⟨b, o, none⟩ = some u) : ∃ u', w'.cell? ⟨b, o, none⟩ = some u' ∧ alike u u' ∧ w'.frozen? ⟨b, o, none⟩ = false := by
  obtain ⟨cs, T, hb⟩ := hp
  obtain ⟨cs', hb', -, hall⟩ := h.2 b cs T hb
  rw [cell_of_row w b o cs T (0, 0) hb, ← Array.getElem?_toList] at hc
  obtain ⟨u', hu', ha⟩ := hall o u hc
  exact ⟨u', by rw [cell_of_row w' b o cs' T (0, 0) hb', ← Array.getElem?_toList]; exact hu', ha, frozen_of_row w' b o cs' T hb'⟩
theorem Like.slice {P : Nat} {w w' : World} (h : Like P w w') {b o : Nat} {a : Option Addr} {l c : Nat} (hp : PlainB w b) (hc : w.cell? ⟨b, o, none⟩ = some (.slice a l c)) : w'.cell? ⟨b, o, none⟩ = some (.slice a l c) := by
  obtain ⟨u', h1, h2, -⟩ := h.cell hp hc
  rw [h1, h2.slice]
theorem Like.str {P : Nat} {w w' : World} (h : Like P w w') {b o : Nat} {s : ByteArray} (hp : PlainB w b) (hc : w.cell? ⟨b, o, none⟩ = some (.string s)) : ∃ t, w'.cell? ⟨b, o, none⟩ = some (.string t) ∧ w'.frozen? ⟨b, o, none⟩ = false := by
  obtain ⟨u', h1, h2, h3⟩ := h.cell hp hc
  obtain ⟨t, rfl⟩ := h2.str
  exact ⟨t, h1, h3⟩
theorem Like.int {P : Nat} {w w' : World} (h : Like P w w') {b o : Nat} {z : Int} (hp : PlainB w b) (hc : w.cell? ⟨b, o, none⟩ = some (.int .i64 z)) : ∃ t, w'.cell? ⟨b, o, none⟩ = some (.int .i64 t) ∧ w'.frozen? ⟨b, o, none⟩ = false := by
  obtain ⟨u', h1, h2, h3⟩ := h.cell hp hc
  obtain ⟨t, rfl⟩ := h2.int
  exact ⟨t, h1, h3⟩
theorem Like.set {P : Nat} {w w' : World} (h : Like P w w') {b o : Nat} {u v : Value} (hP : P ≤ b) (hp : PlainB w b) (hc : w.cell? ⟨b, o, none⟩ = some u) (ha : ∀ x, alike u x → alike u v) : Like P w (w'.setCell ⟨b, o, none⟩ v) := by
  refine ⟨h.1.setCell hP v, fun c cs T hcs => ?_⟩
  obtain ⟨cs', hb', hz, hall⟩ := h.2 c cs T hcs
  by_cases hcb : c = b
  · subst hcb
    refine ⟨cs'.setIfInBounds o v, heap_setCell_same w' c o cs' T v hb', by simpa using hz, fun i x hx => ?_⟩
    obtain ⟨x', hx', hxa⟩ := hall i x hx
    rw [Array.toList_setIfInBounds, List.getElem?_set]
    by_cases hio : o = i
    · subst hio
      rw [cell_of_row w c o cs T (0, 0) hcs, ← Array.getElem?_toList, hx] at hc
      cases hc
      rw [if_pos rfl, if_pos (lt_of_some hx')]
      exact ⟨v, rfl, ha _ hxa⟩
    · rw [if_neg hio]
      exact ⟨x', hx', hxa⟩
  · exact ⟨cs', (heap_setCell_other w' ⟨b, o, none⟩ c v hcb).trans hb', hz, hall⟩
theorem Like.setS {P : Nat} {w w' : World} (h : Like P w w') {b o : Nat} {s : ByteArray} (t : ByteArray) (hP : P ≤ b) (hp : PlainB w b) (hc : w.cell? ⟨b, o, none⟩ = some (.string s)) : Like P w (w'.setCell ⟨b, o, none⟩ (.string t)) := h.set hP hp hc fun _ _ => .inr (.inl ⟨_, _, rfl, rfl⟩)
theorem Like.setI {P : Nat} {w w' : World} (h : Like P w w') {b o : Nat} {s : Int} (t : Int) (hP : P ≤ b) (hp : PlainB w b) (hc : w.cell? ⟨b, o, none⟩ = some (.int .i64 s)) : Like P w (w'.setCell ⟨b, o, none⟩ (.int .i64 t)) := h.set hP hp hc fun _ _ => .inr (.inr ⟨_, _, rfl, rfl⟩)
/-- Only block g has been written, and it is as long as it was. -/
def Clr (g : Nat) (w w' : World) : Prop := w.grownBy w' (some g) ∧ ∀ (cs : Array Value) (T : TypeId), w.heap[g]? = some (Obj.cells cs T (0, 0)) → ∃ cs' : Array Value, w'.heap[g]? = some (Obj.cells cs' T (0, 0)) ∧ cs'.size = cs.size
theorem Clr.refl (g : Nat) (w : World) : Clr g w w := ⟨World.grownBy.refl _ _, fun cs T h => ⟨cs, h, rfl⟩⟩
theorem Clr.set {g : Nat} {w w' : World} (h : Clr g w w') (o : Nat) (v : Value) : Clr g w (w'.setCell ⟨g, o, none⟩ v) := by
  refine ⟨h.1.trans (grown_set w' g o v), fun cs T hcs => ?_⟩
  obtain ⟨cs', hb', hz⟩ := h.2 cs T hcs
  exact ⟨cs'.setIfInBounds o v, heap_setCell_same w' g o cs' T v hb', by simpa using hz⟩
theorem Clr.cell {g : Nat} {w w' : World} (h : Clr g w w') {o : Nat} {u : Value} (hp : PlainB w g) (hc : w.cell? ⟨g, o, none⟩ = some u) : ∃ u', w'.cell? ⟨g, o, none⟩ = some u' ∧ w'.frozen? ⟨g, o, none⟩ = false := by
  obtain ⟨cs, T, hb⟩ := hp
  obtain ⟨cs', hb', hz⟩ := h.2 cs T hb
  rw [cell_of_row w g o cs T (0, 0) hb, ← Array.getElem?_toList] at hc
  have hl := lt_of_some hc
  refine ⟨cs'.toList[o]'(by simp at hl ⊢; omega), ?_, frozen_of_row w' g o cs' T hb'⟩
  rw [cell_of_row w' g o cs' T (0, 0) hb', ← Array.getElem?_toList, List.getElem?_eq_getElem]
theorem Clr.below {g P : Nat} {w w' : World} (h : Clr g w w') (hP : P ≤ g) (hz : P ≤ w.heap.size) : Below P w w' := ⟨h.1.os, h.1.tape, h.1.output, h.1.size, fun i hi => h.1.block i (Nat.lt_of_lt_of_le hi hz) (by intro e; have := Option.some.inj e; omega)⟩
end Go.Proofs.YthcgkkafbobfoaaDoor
