/- Slices of numbers, of primitives and of groups as a walk reads them, whoever made them: all blocks lie below B. For every program. And groups as plain data: what is permitted, what follows its pattern, marks. -/
import Derived.Test.YtdppdonaojdceaaDoorPrim
import Derived.Test.YtdppdonaojdceaaDoorBasg
import Derived.Test.YtdppdonaojdceaaDoorMem
namespace Go.Proofs.YtdppdonaojdceaaDoor
open Go Go.RowKit
set_option linter.unusedVariables false
set_option linter.unusedSimpArgs false

/-- A slice of the numbers l. -/
def IntsAt (B : Nat) (w : World) (v : Value) (l : List Int) : Prop :=
  ∃ ao cap, v = .slice ao l.length cap ∧ l.length ≤ cap ∧ ∀ j, j < l.length → ∃ b off, ao = some ⟨b, off, none⟩ ∧ b < B ∧ w.cell? ⟨b, off + j, none⟩ = some (.int .i64 (l.getD j 0))
/-- A slice of the primitives L. -/
def PrimsAt (B : Nat) (w : World) (v : Value) (L : List (Int × ByteArray)) : Prop :=
  ∃ ao cap, v = .slice ao L.length cap ∧ L.length ≤ cap ∧ cap ≤ maxLen ∧ ∀ j, j < L.length → ∃ b off c r, L[j]? = some (c, r) ∧ ao = some ⟨b, off, none⟩ ∧ b < B ∧
    w.cell? ⟨b, off + j * 2, none⟩ = some (.int .i64 c) ∧ w.cell? ⟨b, off + j * 2 + 1, none⟩ = some (.string r) ∧ r.size ≤ maxLen - 2
/-- A slice of the groups G. -/
def GroupsAt (B : Nat) (w : World) (v : Value) (G : List (Int × List (Int × ByteArray))) : Prop :=
  ∃ ao cap, v = .slice ao G.length cap ∧ G.length ≤ cap ∧ cap ≤ maxLen ∧ ∀ j, j < G.length → ∃ b off k L vi, G[j]? = some (k, L) ∧ ao = some ⟨b, off, none⟩ ∧ b < B ∧
    w.cell? ⟨b, off + j * 2, none⟩ = some (.int .i64 k) ∧ w.cell? ⟨b, off + j * 2 + 1, none⟩ = some vi ∧ PrimsAt B w vi L
section
variable {B C : Nat} {w w' : World} {v : Value}
theorem cell_same {b o : Nat} (hb : w'.heap[b]? = w.heap[b]?) : w'.cell? ⟨b, o, none⟩ = w.cell? ⟨b, o, none⟩ := by simp only [World.cell?, hb]
theorem IntsAt.same {l : List Int} (h : IntsAt B w v l) (hb : ∀ j, j < B → w'.heap[j]? = w.heap[j]?) (hC : B ≤ C) : IntsAt C w' v l := by
  obtain ⟨ao, cap, h1, h2, h3⟩ := h
  refine ⟨ao, cap, h1, h2, fun j hj => ?_⟩
  obtain ⟨b, off, e, hB, hc⟩ := h3 j hj
  exact ⟨b, off, e, by omega, by rw [cell_same (hb b hB)]; exact hc⟩
theorem PrimsAt.same {L : List (Int × ByteArray)} (h : PrimsAt B w v L) (hb : ∀ j, j < B → w'.heap[j]? = w.heap[j]?) (hC : B ≤ C) : PrimsAt C w' v L := by
  obtain ⟨ao, cap, h1, h2, h3, h4⟩ := h
  refine ⟨ao, cap, h1, h2, h3, fun j hj => ?_⟩
  obtain ⟨b, off, c, r, e1, e2, hB, c1, c2, hr⟩ := h4 j hj
  exact ⟨b, off, c, r, e1, e2, by omega, by rw [cell_same (hb b hB)]; exact c1, by rw [cell_same (hb b hB)]; exact c2, hr⟩
theorem GroupsAt.same {G : List (Int × List (Int × ByteArray))} (h : GroupsAt B w v G) (hb : ∀ j, j < B → w'.heap[j]? = w.heap[j]?) (hC : B ≤ C) : GroupsAt C w' v G := by
  obtain ⟨ao, cap, h1, h2, h3, h4⟩ := h
  refine ⟨ao, cap, h1, h2, h3, fun j hj => ?_⟩
  obtain ⟨b, off, k, L, vi, e1, e2, hB, c1, c2, hp⟩ := h4 j hj
  exact ⟨b, off, k, L, vi, e1, e2, by omega, by rw [cell_same (hb b hB)]; exact c1, by rw [cell_same (hb b hB)]; exact c2, hp.same hb hC⟩
theorem IntsAt.below {l : List Int} (h : IntsAt B w v l) (hb : Below B w w') : IntsAt B w' v l := h.same hb.block (Nat.le_refl _)
theorem PrimsAt.below {L : List (Int × ByteArray)} (h : PrimsAt B w v L) (hb : Below B w w') : PrimsAt B w' v L := h.same hb.block (Nat.le_refl _)
theorem GroupsAt.below {G : List (Int × List (Int × ByteArray))} (h : GroupsAt B w v G) (hb : Below B w w') : GroupsAt B w' v G := h.same hb.block (Nat.le_refl _)
end

/-- The codes of the pattern of a kind. -/
def permL (k : Int) : List Int := if k = 1 ∨ k = 2 then [7] else if k = 3 then [3, 7] else if k = 4 then [8, 1] else []
theorem permL_len (k : Int) : (permL k).length ≤ 2 := by unfold permL; (repeat' split) <;> decide
theorem permL_none (k : Int) : permL k = [] ↔ k < 1 ∨ 4 < k := by
  unfold permL
  by_cases h1 : k = 1 ∨ k = 2
  · rw [if_pos h1]; simp; omega
  · rw [if_neg h1]
    by_cases h3 : k = 3
    · rw [if_pos h3]; simp; omega
    · rw [if_neg h3]
      by_cases h4 : k = 4
      · rw [if_pos h4]; simp; omega
      · rw [if_neg h4]; simp; omega
/-- The letter of a kind. -/
def kindC (k : Int) : UInt8 := if k = 1 then 65 else if k = 2 then 66 else if k = 3 then 67 else 71
/-- A mark's four characters. -/
def markL (k n : Int) : List UInt8 := 45 :: kindC k :: digsL n.toNat 2
def badMark (k n : Int) : Prop := k < 1 ∨ 4 < k ∨ n < 0 ∨ 4095 < n
instance (k n : Int) : Decidable (badMark k n) := by unfold badMark; infer_instance
def markS (k n : Int) : ByteArray := if badMark k n then ⟨#[]⟩ else strL (markL k n)
def markE (k n : Int) : Int := if badMark k n then 2 else 0
/-- Do the codes of a group follow its pattern to its end? -/
def follL (k : Int) (L : List (Int × ByteArray)) : Bool :=
  decide (permL k ≠ []) && decide (L.length % (permL k).length = 0) && (List.range L.length).all fun i => decide ((L.getD i (0, ⟨#[]⟩)).1 = (permL k).getD (i % (permL k).length) 0)

theorem foll_none {k : Int} {L : List (Int × ByteArray)} (h : (permL k).length = 0) : follL k L = false := by
  unfold follL
  rw [decide_eq_false (by intro e; exact e (List.length_eq_zero_iff.1 h))]
  rfl
theorem foll_rest {k : Int} {L : List (Int × ByteArray)} (h : ¬ L.length % (permL k).length = 0) : follL k L = false := by
  unfold follL
  rw [decide_eq_false h, Bool.and_false]
  rfl
theorem foll_bad {k : Int} {L : List (Int × ByteArray)} (j : Nat) (c : Int) (r : ByteArray) (hj : L[j]? = some (c, r)) (h : c ≠ (permL k).getD (j % (permL k).length) 0) : follL k L = false := by
  unfold follL
  have hlt : j < L.length := by
    rcases Nat.lt_or_ge j L.length with h' | h'
    · exact h'
    · rw [List.getElem?_eq_none h'] at hj; cases hj
  have : ((List.range L.length).all fun i => decide ((L.getD i (0, ⟨#[]⟩)).1 = (permL k).getD (i % (permL k).length) 0)) = false := by
    rw [List.all_eq_false]
    refine ⟨j, List.mem_range.2 hlt, ?_⟩
    rw [List.getD, hj]
    simpa using h
  rw [this, Bool.and_false]
theorem foll_good {k : Int} {L : List (Int × ByteArray)} (h0 : (permL k).length ≠ 0) (h1 : L.length % (permL k).length = 0) (h : ∀ j c r, j < L.length → L[j]? = some (c, r) → c = (permL k).getD (j % (permL k).length) 0) : follL k L = true := by
  unfold follL
  rw [decide_eq_true (by intro e; rw [e] at h0; exact h0 rfl), decide_eq_true h1]
  simp only [Bool.and_self, Bool.true_and]
  rw [List.all_eq_true]
  intro j hj
  have hlt := List.mem_range.1 hj
  have e : L[j]? = some (L[j].1, L[j].2) := by rw [List.getElem?_eq_getElem hlt]
  rw [List.getD, e]
  simpa using h j _ _ hlt e

end Go.Proofs.YtdppdonaojdceaaDoor
