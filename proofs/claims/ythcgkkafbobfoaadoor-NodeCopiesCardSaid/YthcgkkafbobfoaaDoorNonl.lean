/- Valid: only the fields of its kind. -/
import Derived.Test.YthcgkkafbobfoaaDoorNcop
import Derived.Test.YthcgkkafbobfoaaDoorNutf
import Derived.Test.YthcgkkafbobfoaaDoorBset
namespace Go.Proofs.YthcgkkafbobfoaaDoor
open Go Go.Maps Go.ChangeShapes Go.WideShapes Go.ChangeAt Go.RowKit
set_option linter.unusedVariables false
set_option linter.unusedSimpArgs false

/-- Only the fields of its kind. -/
def onlyB (k : Int) (b : Bool) (n : Int) (t : ByteArray) (l1 l2 : Nat) : Bool :=
  decide (0 ≤ k) && decide (k ≤ 5) && (!b || decide (k = 1)) && (decide (n = 0) || decide (k = 2)) && (decide (t = ⟨#[]⟩) || decide (k = 3)) && (decide (l2 = 0) || decide (4 ≤ k)) && (decide (l1 = 0) || decide (k = 5))
theorem cast_eq0 (l : Nat) : ((l : Int) == 0) = decide (l = 0) := by
  by_cases h : l = 0
  · simp [h]
  · simp [h]
theorem text_nil (t : ByteArray) : t = ⟨#[]⟩ ↔ t.toList = [] := by
  constructor
  · rintro rfl; rw [ByteArray.toList_eq]
  · intro h
    rw [ByteArray.toList_eq] at h
    obtain ⟨⟨l⟩⟩ := t
    simp at h
    rw [h]
set_option maxHeartbeats 1600000 in
set_option maxRecDepth 100000 in
theorem only_any (k : Int) (b : Bool) (n : Int) (t : ByteArray) (a1 a2 : Option Addr) (l1 c1 l2 c2 : Nat) (w : World) : Calls Tryd.prog 36 #[.agg #[.int .i64 k, .bool b, .int .i64 n, .string t, .slice a1 l1 c1, .slice a2 l2 c2]] w fun e w' => e = .returned (.bool (onlyB k b n t l1 l2)) ∧ Below w.heap.size w w' := by
  have htn := text_nil t
  have HT := Lib.hid htn
  clear htn
  rcases Int.lt_or_le k 0 with hk | hk
  · go_enter Tryd.func36, Tryd.ntmps36
    go_wp2
    go_ret
    exact ⟨by have : decide (0 ≤ k) = false := decide_eq_false (by omega); simp [onlyB, this], (Below.refl _ _).alloc (Nat.le_refl _) _⟩
  rcases Int.lt_or_le 5 k with hk5 | hk5
  · have hk0 : ¬ k < 0 := by omega
    go_enter Tryd.func36, Tryd.ntmps36
    go_wp2
    go_ret
    exact ⟨by have : decide (k ≤ 5) = false := decide_eq_false (by omega); simp [onlyB, this], (Below.refl _ _).alloc (Nat.le_refl _) _⟩
  obtain rfl | rfl | rfl | rfl | rfl | rfl : k = 0 ∨ k = 1 ∨ k = 2 ∨ k = 3 ∨ k = 4 ∨ k = 5 := by omega
  all_goals
    go_enter Tryd.func36, Tryd.ntmps36
    go_wp2
    all_goals
      go_ret
      exact ⟨by simp [onlyB, HT.out, cast_eq0, *], (Below.refl _ _).alloc (Nat.le_refl _) _⟩
end Go.Proofs.YthcgkkafbobfoaaDoor
