/- A slice of groups that the call makes, one group appended at a time; the groups' items lie in blocks of their own. For every program. -/
import Derived.Test.YtdmgmfdmakheiaaDoorSgst
namespace Go.Proofs.YtdmgmfdmakheiaaDoor
open Go Go.RowKit
set_option linter.unusedVariables false
set_option linter.unusedSimpArgs false

theorem PrimsAt.kept {w w' : World} {row : Option Nat} {v : Value} {L : List Prim} (h : PrimsAt w.heap.size w v L) (hg : w.grownBy w' row) (hne : L ≠ [] → ∀ b, v.ownBlock = some b → row ≠ some b) : PrimsAt w'.heap.size w' v L := by
  obtain ⟨ao, cap, rfl, h2, h3, h4⟩ := h
  refine ⟨ao, cap, rfl, h2, h3, fun j hj => ?_⟩
  obtain ⟨b, off, c, r, e1, rfl, hB, c1, c2, hr⟩ := h4 j hj
  have hb : w'.heap[b]? = w.heap[b]? := hg.block b hB fun e => hne (by intro e; rw [e] at hj; exact absurd hj (Nat.not_lt_zero _)) b rfl e.symm
  exact ⟨b, off, c, r, e1, rfl, Nat.lt_of_lt_of_le hB hg.size, by rw [cell_same hb]; exact c1, by rw [cell_same hb]; exact c2, hr⟩
theorem PrimsAt.lt {w : World} {v : Value} {L : List Prim} (h : PrimsAt w.heap.size w v L) (hn : L ≠ []) : ∀ b, v.ownBlock = some b → b < w.heap.size := by
  obtain ⟨ao, cap, rfl, h2, h3, h4⟩ := h
  obtain ⟨b, off, c, r, e1, rfl, hB, c1, c2, hr⟩ := h4 0 (List.length_pos_iff.2 hn)
  intro b' e
  cases e
  exact hB

/-- A group with the slice that holds its items. -/
abbrev Trip := Int × Value × List Prim
def gCells (A : List Trip) : List Value := A.flatMap fun x => [.int .i64 x.1, x.2.1]
def grpsOf (A : List Trip) : List Grp := A.map fun x => (x.1, x.2.2)
theorem gCells_length (l : List Trip) : (gCells l).length = l.length * 2 := by
  induction l with
  | nil => rfl
  | cons x t ih =>
    have : (gCells (x :: t)).length = 2 + (gCells t).length := by simp [gCells]; omega
    rw [this, ih, List.length_cons]; omega
theorem gCells_append (a b : List Trip) : gCells (a ++ b) = gCells a ++ gCells b := by simp [gCells]
theorem gCells_at : ∀ {l : List Trip} {j : Nat} {c : Int} {r : Value} {L : List Prim}, l[j]? = some (c, r, L) → (gCells l)[j * 2]? = some (.int .i64 c) ∧ (gCells l)[j * 2 + 1]? = some r
  | [], _, _, _, _, h => by simp at h
  | x :: t, 0, c, r, L, h => by
    simp at h
    subst h
    exact ⟨rfl, rfl⟩
  | x :: t, j + 1, c, r, L, h => by
    obtain ⟨h1, h2⟩ := gCells_at (l := t) (j := j) (by simpa using h)
    have e : gCells (x :: t) = .int .i64 x.1 :: x.2.1 :: gCells t := by simp [gCells]
    rw [e, show (j + 1) * 2 = j * 2 + 1 + 1 by omega, show j * 2 + 1 + 1 + 1 = (j * 2 + 1) + 1 + 1 by omega]
    exact ⟨by simpa using h1, by simpa using h2⟩
/-- What the call has gathered: its own slice v, from block base on; the items of each group lie from base on, too, in another block than the slice's. -/
def GRow (TG : TypeId) (base : Nat) (w : World) (v : Value) (A : List Trip) : Prop :=
  w.ownsRow base TG 2 v A.length (gCells A) ∧ ∀ x, x ∈ A → PrimsAt w.heap.size w x.2.1 x.2.2 ∧ (x.2.2 ≠ [] → ∀ b, x.2.1.ownBlock = some b → base ≤ b ∧ v.ownBlock ≠ some b)
theorem GRow.nil (TG : TypeId) (base : Nat) (w : World) : GRow TG base w (.slice none 0 0) [] := ⟨World.ownsRow_nil w _ _ _, fun x hx => by cases hx⟩
theorem GRow.kept {TG : TypeId} {base : Nat} {w w' : World} {v : Value} {A : List Trip} {row : Option Nat} (h : GRow TG base w v A) (hg : w.grownBy w' row) (hr : ∀ r, row = some r → r < base) : GRow TG base w' v A := by
  obtain ⟨h1, h2⟩ := h
  refine ⟨h1.kept hg ?_, fun x hx => ?_⟩
  · cases e : v.ownBlock with
    | none => exact .inl rfl
    | some b => refine .inr fun e' => ?_
                have := (h1.lt b e).1
                have := hr b e'.symm
                omega
  · obtain ⟨p1, p2⟩ := h2 x hx
    exact ⟨p1.kept hg fun hn b e e' => by have := (p2 hn b e).1; have := hr b e'; omega, p2⟩
theorem GRow.below {TG : TypeId} {base : Nat} {w w' : World} {v : Value} {A : List Trip} (h : GRow TG base w v A) (hb : Below w.heap.size w w') : GRow TG base w' v A :=
  h.kept (row := none) ⟨hb.os, hb.tape, hb.output, hb.size, fun i hi _ => hb.block i hi⟩ fun r e => by cases e
/-- One group more. -/
theorem GRow.push {TG : TypeId} {base : Nat} {w w2 : World} {v v' : Value} {A : List Trip} {k : Int} {vi : Value} {L : List Prim} (h : GRow TG base w v A)
    (hown : w2.ownsRow base TG 2 v' (A.length + 1) (gCells A ++ [.int .i64 k, vi])) (hg : w.grownBy w2 v.ownBlock) (hat : v'.ownBlock = v.ownBlock ∨ ∀ b, v'.ownBlock = some b → w.heap.size ≤ b)
    (hp : PrimsAt w.heap.size w vi L) (hb : L ≠ [] → ∀ b, vi.ownBlock = some b → base ≤ b ∧ v.ownBlock ≠ some b) : GRow TG base w2 v' (A ++ [(k, vi, L)]) := by
  obtain ⟨h1, h2⟩ := h
  have key : ∀ (u : Value) (M : List Prim), PrimsAt w.heap.size w u M → (M ≠ [] → ∀ b, u.ownBlock = some b → base ≤ b ∧ v.ownBlock ≠ some b) → PrimsAt w2.heap.size w2 u M ∧ (M ≠ [] → ∀ b, u.ownBlock = some b → base ≤ b ∧ v'.ownBlock ≠ some b) := by
    intro u M q1 q2
    refine ⟨q1.kept hg fun hn b e => (q2 hn b e).2, fun hn b e => ⟨(q2 hn b e).1, fun e' => ?_⟩⟩
    rcases hat with ha | ha
    · rw [ha] at e'; exact (q2 hn b e).2 e'
    · have := ha b e'
      have := q1.lt hn b e
      omega
  refine ⟨?_, fun x hx => ?_⟩
  · rw [List.length_append, gCells_append]; exact hown
  · rcases List.mem_append.1 hx with hx | hx
    · exact key _ _ (h2 x hx).1 (h2 x hx).2
    · cases List.mem_singleton.1 hx
      exact key _ _ hp hb
theorem GRow.groups {TG : TypeId} {base : Nat} {w : World} {v : Value} {A : List Trip} (h : GRow TG base w v A) : GroupsAt w.heap.size w v (grpsOf A) := by
  obtain ⟨h1, h2⟩ := h
  have hl : (grpsOf A).length = A.length := by simp [grpsOf]
  rcases h1.2 with ⟨rfl, h0⟩ | ⟨g, cap, cur, rfl, hb, hg, hnc, hcm, hcs, hcu⟩
  · exact ⟨none, 0, by rw [hl, h0], by omega, Nat.zero_le _, fun j hj => absurd hj (by omega)⟩
  · refine ⟨_, cap, by rw [hl], by omega, hcm, fun j hj => ?_⟩
    have hj' : j < A.length := by omega
    have e : A[j]? = some (A[j].1, A[j].2.1, A[j].2.2) := by rw [List.getElem?_eq_getElem hj']
    obtain ⟨q1, q2⟩ := gCells_at e
    have hlt := lt_of_block hg
    refine ⟨g, 0, A[j].1, A[j].2.2, A[j].2.1, ?_, rfl, hlt, ?_, ?_, (h2 _ (List.getElem_mem hj')).1⟩
    · rw [grpsOf, List.getElem?_map, e]; rfl
    · have := h1.cells (g := g) rfl _ _ q1
      rw [Addr.add_lit] at this; exact this
    · have := h1.cells (g := g) rfl _ _ q2
      rw [Addr.add_lit, ← Nat.add_assoc] at this; exact this

end Go.Proofs.YtdmgmfdmakheiaaDoor
