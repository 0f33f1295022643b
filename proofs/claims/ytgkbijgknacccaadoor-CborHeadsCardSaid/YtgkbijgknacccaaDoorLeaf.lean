/- Nodes without text or items as values, and how a map of such nodes is read. No program. -/
import Derived.Test.YtgkbijgknacccaaDoorNshape
import Derived.Maps.OwnSet
namespace Go.Proofs.YtgkbijgknacccaaDoor
open Go Go.Maps Go.ChangeShapes Go.WideShapes Go.ChangeAt Go.RowKit
set_option linter.unusedVariables false
set_option linter.unusedSimpArgs false

/-- A leaf without text. -/
def leafV (k : Int) (b : Bool) : Value := .agg #[.int .i64 k, .bool b, .int .i64 0, .string ⟨#[]⟩, .slice none 0 0, .slice none 0 0]
open Classical in
/-- How the three words' nodes are read. -/
noncomputable def wordR (v : Value) : Option (DataW Unit × List MemPlace) := if v = leafV 0 false then some (.lit (.int .i64 0), []) else if v = leafV 1 false then some (.lit (.int .i64 1), []) else if v = leafV 1 true then some (.lit (.int .i64 2), []) else none
theorem leaf_ne1 : leafV 1 false ≠ leafV 0 false := by intro h; simp [leafV] at h
theorem leaf_ne2 : leafV 1 true ≠ leafV 0 false := by intro h; simp [leafV] at h
theorem leaf_ne3 : leafV 1 true ≠ leafV 1 false := by intro h; simp [leafV] at h
theorem wordR_null : wordR (leafV 0 false) = some (.lit (.int .i64 0), []) := by unfold wordR; rw [if_pos rfl]
theorem wordR_false : wordR (leafV 1 false) = some (.lit (.int .i64 1), []) := by unfold wordR; rw [if_neg leaf_ne1, if_pos rfl]
theorem wordR_true : wordR (leafV 1 true) = some (.lit (.int .i64 2), []) := by unfold wordR; rw [if_neg leaf_ne2, if_neg leaf_ne3, if_pos rfl]
theorem wordR_inv {v : Value} {n : Int} {ps : List MemPlace} (h : wordR v = some (.lit (.int .i64 n), ps)) : (n = 0 → v = leafV 0 false) ∧ (n = 1 → v = leafV 1 false) ∧ (n = 2 → v = leafV 1 true) := by
  unfold wordR at h
  split at h
  · rename_i e
    simp only [Option.some.injEq, Prod.mk.injEq, DataW.lit.injEq, Lit.int.injEq] at h
    obtain ⟨⟨-, rfl⟩, -⟩ := h
    exact ⟨fun _ => e, fun h => by omega, fun h => by omega⟩
  · split at h
    · rename_i e
      simp only [Option.some.injEq, Prod.mk.injEq, DataW.lit.injEq, Lit.int.injEq] at h
      obtain ⟨⟨-, rfl⟩, -⟩ := h
      exact ⟨fun h => by omega, fun _ => e, fun h => by omega⟩
    · split at h
      · rename_i e
        simp only [Option.some.injEq, Prod.mk.injEq, DataW.lit.injEq, Lit.int.injEq] at h
        obtain ⟨⟨-, rfl⟩, -⟩ := h
        exact ⟨fun h => by omega, fun h => by omega, fun _ => e⟩
      · cases h
end Go.Proofs.YtgkbijgknacccaaDoor
